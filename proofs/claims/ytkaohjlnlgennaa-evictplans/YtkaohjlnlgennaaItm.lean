/- Items in memory: an id and a leaf. -/
import Derived.Test.YtkaohjlnlgennaaFre
namespace Go.Proofs.Ytkaohjlnlgennaa.hp
open Go.RowKit
set_option linter.unusedVariables false

/-- An item: id and leaf. -/
def f2 (p : Int × Int) : List Value := [.int .i64 p.1, .int .i64 p.2]
theorem len2 (p : Int × Int) : (f2 p).length = 2 := rfl

theorem one2 (ps : List (Int × Int)) : ∀ u ∈ ps.flatMap f2, u.oneCell' = true := by
  intro u hu
  obtain ⟨p, _, hp⟩ := List.mem_flatMap.1 hu
  simp [f2] at hp
  rcases hp with rfl | rfl <;> rfl

/-- The i-th item's cells, in the walk's own spelling. -/
theorem Lie.at2 {J : Nat → Prop} {w : World} {a : Option Addr} {n c m : Nat} {ps : List (Int × Int)} (h : Lie J w (.slice a n c) m (ps.flatMap f2)) (i : Nat) (hi : i < ps.length) :
    ∃ x, a = some x ∧ w.cell? (x.add (i * 2)) = some (.int .i64 (ps.getD i (0, 0)).1) ∧ w.cell? ⟨(x.add (i * 2)).block, (x.add (i * 2)).off + 1, none⟩ = some (.int .i64 (ps.getD i (0, 0)).2) ∧ (x.add (i * 2)).block < w.heap.size ∧ (x.add (i * 2)).block ≠ w.heap.size := by
  have hx : ps[i]? = some (ps.getD i (0, 0)) := by rw [List.getD_eq_getElem?_getD, List.getElem?_eq_getElem hi]; rfl
  obtain ⟨P, hP⟩ : ∃ P, ps.getD i (0, 0) = P := ⟨_, rfl⟩
  rw [hP] at hx ⊢
  have g0 := flat_get len2 ps i 0 (by omega) P hx
  have g1 := flat_get len2 ps i 1 (by omega) P hx
  rcases h with ⟨_, _, h⟩ | ⟨x, cp, hv, hJ, hc⟩
  · rw [h] at g0
    simp [f2] at g0
  · cases hv
    have h0 := hc _ _ g0
    have h1 := hc _ _ g1
    have hlt : (x.add (i * 2)).block < w.heap.size := World.block_lt_of_cell? w _ h0
    rw [add_one] at h1
    exact ⟨x, rfl, h0, h1, hlt, by omega⟩

/-- A row in new memory, of the caller's own. -/
def NewR {α : Type} (e : TypeId) (s : Nat) (f : α → List Value) (w : World) (xs : List α) (v : Value) (w' : World) : Prop := w'.ownsRow w.heap.size e s v xs.length (xs.flatMap f) ∧ Chg no w w'

section
variable {α : Type} {e : TypeId} {s : Nat} {f : α → List Value} {w w1 w2 w3 : World} {xs : List α} {v v' : Value}

theorem NewR.lie (h : NewR e s f w xs v w1) : Lie (fun k => w.heap.size ≤ k ∧ k < w1.heap.size) w1 v xs.length (xs.flatMap f) := Lie.of_owns h.1 h.1.lt

theorem NewR.shape (h : NewR e s f w xs v w1) : ∃ a c, v = .slice a xs.length c := owns_shape h.1

theorem NewR.same (h : NewR e s f w xs v w1) (k : Chg no w1 w2) : NewR e s f w xs v w2 := ⟨k.owns h.1 (fun _ _ h => h), h.2.then k⟩

theorem NewR.nil (k : Chg no w w1) : NewR e s f w [] (.slice none 0 0) w1 := ⟨World.ownsRow_nil _ _ _ _, k⟩

theorem NewR.add (h : NewR e s f w xs v w1) (k : Chg no w1 w2) (x : α) (o : w3.ownsRow 0 e s v' (xs.length + 1) (xs.flatMap f ++ f x)) (g : w2.grownBy w3 v.ownBlock) (p : ∀ b, v'.ownBlock = some b → v.ownBlock = some b ∨ w2.heap.size ≤ b) : NewR e s f w (xs ++ [x]) v' w3 := by
  have s1 := h.2.size
  have s2 := k.size
  have ef : (xs ++ [x]).flatMap f = xs.flatMap f ++ f x := by simp
  refine ⟨?_, (h.2.then k).grown g (fun b hb => .inr (h.1.lt b hb).1)⟩
  rw [ef, List.length_append]
  refine ⟨o.1, ?_⟩
  rcases o.2 with hh | ⟨b, cap, cur, e1, _, rest⟩
  · exact .inl hh
  · refine .inr ⟨b, cap, cur, e1, ?_, rest⟩
    rcases p b (by rw [e1]; rfl) with e2 | e2
    · exact (h.1.lt b e2).1
    · omega

/-- A row of the call's own, ready to grow. -/
theorem ready (h : NewR e s f w xs v w1) :
    ∃ a c n XS, v = .slice a n c ∧ n = xs.length ∧ (∀ W, Chg no w1 W → W.ownsRow 0 e s (.slice a n c) n XS) ∧
      ∀ (x : α) (W : World) (v' : Value) (w3 : World), Chg no w1 W → w3.ownsRow 0 e s v' (n + 1) (XS ++ f x) → W.grownBy w3 (Value.slice a n c).ownBlock → (∀ b, v'.ownBlock = some b → (Value.slice a n c).ownBlock = some b ∨ W.heap.size ≤ b) → NewR e s f w (xs ++ [x]) v' w3 := by
  obtain ⟨a, c, rfl⟩ := h.shape
  exact ⟨a, c, _, _, rfl, rfl, fun W k => owns_base (k.owns h.1 (fun _ _ h => h)) (Nat.zero_le _), fun x W v' w3 k o g p => h.add k x o g p⟩
end

theorem ints_one (xs : List Int) : ∀ u ∈ xs.map (Value.int .i64), u.oneCell' = true := by
  intro u hu
  obtain ⟨x, _, rfl⟩ := List.mem_map.1 hu
  rfl

theorem one_i1 (a : Int) : ∀ u ∈ ([.int .i64 a] : List Value), u.oneCell' = true := ints_one [a]
theorem one_i2 (a b : Int) : ∀ u ∈ ([.int .i64 a, .int .i64 b] : List Value), u.oneCell' = true := ints_one [a, b]

theorem take_next {α : Type} (xs : List α) (d : α) (k : Nat) (hk : k < xs.length) : xs.take (k + 1) = xs.take k ++ [xs.getD k d] := by
  rw [List.take_succ_eq_append_getElem hk, List.getD_eq_getElem?_getD, List.getElem?_eq_getElem hk]
  rfl

end Go.Proofs.Ytkaohjlnlgennaa.hp
