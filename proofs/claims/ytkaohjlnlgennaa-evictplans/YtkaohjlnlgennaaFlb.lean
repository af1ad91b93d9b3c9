/- Rows of structs as cells. No word of the program. -/
import Derived.Test.YtkaohjlnlgennaaApp
import Derived.Laws.OwnMore
import Derived.Lib.SliceRun
namespace Go.Proofs.Ytkaohjlnlgennaa.hp
open Go.RowKit
set_option linter.unusedVariables false

section
variable {α : Type} {f : α → List Value} {s : Nat}

theorem flat_length (hf : ∀ x, (f x).length = s) (xs : List α) : (xs.flatMap f).length = xs.length * s := by
  induction xs with
  | nil => simp
  | cons x xs ih => rw [List.flatMap_cons, List.length_append, ih, hf, List.length_cons, Nat.add_mul]; omega

theorem flat_get (hf : ∀ x, (f x).length = s) (xs : List α) (i j : Nat) (hj : j < s) (x : α) (hx : xs[i]? = some x) : (xs.flatMap f)[i * s + j]? = (f x)[j]? := by
  induction xs generalizing i with
  | nil => simp at hx
  | cons y xs ih =>
    rw [List.flatMap_cons]
    cases i with
    | zero =>
      simp at hx
      subst hx
      rw [List.getElem?_append_left (by rw [hf]; omega)]
      congr 1
      omega
    | succ i =>
      have e : (i + 1) * s = i * s + s := Nat.succ_mul i s
      rw [List.getElem?_append_right (by rw [hf]; omega), hf]
      have := ih i (by simpa using hx)
      rw [← this]
      congr 1
      omega

end

/-- The slice v of n elements shows the cells xs; where it shows any its block is one of which J holds. -/
def Lie (J : Nat → Prop) (w : World) (v : Value) (n : Nat) (xs : List Value) : Prop :=
  (v = .slice none 0 0 ∧ n = 0 ∧ xs = []) ∨ ∃ x c, v = .slice (some x) n c ∧ (xs ≠ [] → J x.block) ∧ ∀ i u, xs[i]? = some u → w.cell? (x.add i) = some u

theorem Lie.chg {F J : Nat → Prop} {w w' : World} {v : Value} {n : Nat} {xs : List Value} (h : Lie J w v n xs) (c : Chg F w w') (hn : ∀ k, J k → ¬ F k) : Lie J w' v n xs := by
  rcases h with h | ⟨x, cp, rfl, hJ, hc⟩
  · exact .inl h
  · exact .inr ⟨x, cp, rfl, hJ, fun i u hu => c.cell (hc i u hu) (by rw [add_block]; exact hn _ (hJ (ne_of_get hu)))⟩

theorem Lie.same {J : Nat → Prop} {w w' : World} {v : Value} {n : Nat} {xs : List Value} (h : Lie J w v n xs) (c : Chg no w w') : Lie J w' v n xs := h.chg c (fun _ _ h => h)

theorem Lie.mono {J K : Nat → Prop} {w : World} {v : Value} {n : Nat} {xs : List Value} (h : Lie J w v n xs) (hn : ∀ k, J k → K k) : Lie K w v n xs := by
  rcases h with h | ⟨x, cp, rfl, hJ, hc⟩
  · exact .inl h
  · exact .inr ⟨x, cp, rfl, fun e => hn _ (hJ e), hc⟩

theorem Lie.slice {J : Nat → Prop} {w : World} {v : Value} {n : Nat} {xs : List Value} (h : Lie J w v n xs) : ∃ a c, v = .slice a n c := by
  rcases h with ⟨rfl, rfl, _⟩ | ⟨x, c, rfl, _⟩
  · exact ⟨_, _, rfl⟩
  · exact ⟨_, _, rfl⟩

theorem Lie.of_owns {J : Nat → Prop} {w : World} {base : Nat} {e : TypeId} {s : Nat} {v : Value} {n : Nat} {xs : List Value} (h : w.ownsRow base e s v n xs) (hJ : ∀ k, v.ownBlock = some k → J k) : Lie J w v n xs := by
  rcases h.2 with ⟨rfl, hn⟩ | ⟨g, cap, cur, rfl, hb, hg, hc, hm, hs, ht⟩
  · exact .inl ⟨rfl, hn, List.eq_nil_of_length_eq_zero (by rw [h.1, hn]; simp)⟩
  · exact .inr ⟨_, _, rfl, fun _ => hJ g rfl, h.cells rfl⟩

theorem add_one (x : Addr) (i : Nat) : x.add (i + 1) = ⟨(x.add i).block, (x.add i).off + 1, none⟩ := by
  unfold Addr.add
  rw [if_neg (by omega)]
  split
  · subst_vars; simp
  · simp; omega

theorem add_field (x : Addr) (i j : Nat) : x.add (i + (j + 1)) = ⟨(x.add i).block, (x.add i).off + (j + 1), none⟩ := by
  unfold Addr.add
  rw [if_neg (by omega)]
  split
  · subst_vars; simp
  · simp; omega

end Go.Proofs.Ytkaohjlnlgennaa.hp
