/- The store as plain lists: cells, writes in flight, what a fall leaves; no word of the program. -/
import Derived.Test.YteehphmedmplkaaHeap
namespace Go.Proofs.Yteehphmedmplkaa.md
open Go.RowKit Go.Proofs.Yteehphmedmplkaa.hp
set_option linter.unusedVariables false

/-- A cell: the slice that the program holds for it, and the bytes that it shows. -/
abbrev Cell := Value × List Int
/-- A write in flight: its address, its cell. -/
abbrev Wr := Nat × Cell
def dC : Cell := (.slice none 0 0, [])
def dW : Wr := (0, dC)

/-- The cells behind the first writes, those alone that k names. -/
def redo (V : List Cell) (W : List Wr) (k : Nat → Bool) : Nat → List Cell
  | 0 => V
  | i + 1 => if k i then (redo V W k i).set (W.getD i dW).1 (W.getD i dW).2 else redo V W k i

def all : Nat → Bool := fun _ => true
def of (l : List Bool) : Nat → Bool := fun i => l.getD i false

/-- What the first writes in flight look like in memory: address, what was covered, what covers it. -/
def rows (V : List Cell) (W : List Wr) : Nat → List Value
  | 0 => []
  | i + 1 => rows V W i ++ [.int .i64 (W.getD i dW).1, ((redo V W all i).getD (W.getD i dW).1 dC).1, (W.getD i dW).2.1]

theorem redo_length (V : List Cell) (W : List Wr) (k : Nat → Bool) (i : Nat) : (redo V W k i).length = V.length := by
  induction i with
  | zero => rfl
  | succ i ih => simp only [redo]; split <;> simp [ih]

theorem rows_length (V : List Cell) (W : List Wr) (i : Nat) : (rows V W i).length = i * 3 := by
  induction i with
  | zero => rfl
  | succ i ih => simp [rows, ih]; omega

theorem rows_get (V : List Cell) (W : List Wr) (i n : Nat) (h : i < n) :
    (rows V W n)[i * 3]? = some (.int .i64 (W.getD i dW).1) ∧ (rows V W n)[i * 3 + 1]? = some ((redo V W all i).getD (W.getD i dW).1 dC).1 ∧ (rows V W n)[i * 3 + 2]? = some (W.getD i dW).2.1 := by
  induction n with
  | zero => omega
  | succ n ih =>
    have hl := rows_length V W n
    by_cases hi : i < n
    · obtain ⟨h1, h2, h3⟩ := ih hi
      refine ⟨?_, ?_, ?_⟩
      · rw [rows, List.getElem?_append_left (by omega)]; exact h1
      · rw [rows, List.getElem?_append_left (by omega)]; exact h2
      · rw [rows, List.getElem?_append_left (by omega)]; exact h3
    · obtain rfl : i = n := by omega
      refine ⟨?_, ?_, ?_⟩
      · rw [rows, List.getElem?_append_right (by omega), hl, show i * 3 - i * 3 = 0 by omega]; rfl
      · rw [rows, List.getElem?_append_right (by omega), hl, show i * 3 + 1 - i * 3 = 1 by omega]; rfl
      · rw [rows, List.getElem?_append_right (by omega), hl, show i * 3 + 2 - i * 3 = 2 by omega]; rfl

theorem redo_back (V : List Cell) (W : List Wr) (i : Nat) (h : (W.getD i dW).1 < V.length) :
    ((redo V W all (i + 1)).map (·.1)).set (W.getD i dW).1 ((redo V W all i).getD (W.getD i dW).1 dC).1 = (redo V W all i).map (·.1) := by
  have hl := redo_length V W all i
  simp only [redo, all, if_true, List.map_set, List.set_set]
  apply List.ext_getElem?
  intro j
  rw [List.getElem?_set]
  split
  · rename_i e
    subst e
    have hlt : (W.getD i dW).1 < (redo V W all i).length := by omega
    rw [if_pos (by simpa [all] using hlt), List.getElem?_map, List.getD_eq_getElem?_getD]
    unfold all at hlt ⊢
    rw [List.getElem?_eq_getElem hlt]
    rfl
  · rfl

theorem redo_map_set (V : List Cell) (W : List Wr) (k : Nat → Bool) (i : Nat) (h : k i = true) : (redo V W k (i + 1)).map (·.1) = ((redo V W k i).map (·.1)).set (W.getD i dW).1 (W.getD i dW).2.1 := by
  simp [redo, h, List.map_set]

theorem redo_skip (V : List Cell) (W : List Wr) (k : Nat → Bool) (i : Nat) (h : k i = false) : redo V W k (i + 1) = redo V W k i := by
  simp [redo, h]

theorem getD_append {α : Type} (l : List α) (x d : α) (i : Nat) : (l ++ [x]).getD i d = if i < l.length then l.getD i d else if i = l.length then x else d := by
  simp only [List.getD_eq_getElem?_getD]
  split
  · rw [List.getElem?_append_left (by omega)]
  · rw [List.getElem?_append_right (by omega)]
    split
    · rename_i e; subst e; simp
    · rw [List.getElem?_eq_none (by simp; omega)]; rfl

theorem redo_append (V : List Cell) (W : List Wr) (x : Wr) (k : Nat → Bool) (i : Nat) (h : i ≤ W.length) : redo V (W ++ [x]) k i = redo V W k i := by
  induction i with
  | zero => rfl
  | succ i ih => simp only [redo, ih (by omega), getD_append, if_pos (show i < W.length by omega)]

theorem rows_append (V : List Cell) (W : List Wr) (x : Wr) (i : Nat) (h : i ≤ W.length) : rows V (W ++ [x]) i = rows V W i := by
  induction i with
  | zero => rfl
  | succ i ih => simp only [rows, ih (by omega), redo_append V W x all i (by omega), getD_append, if_pos (show i < W.length by omega)]

theorem rows_more (V : List Cell) (W : List Wr) (x : Wr) : rows V (W ++ [x]) (W.length + 1) = rows V W W.length ++ [.int .i64 x.1, ((redo V W all W.length).getD x.1 dC).1, x.2.1] := by
  simp only [rows, rows_append V W x _ (Nat.le_refl _), redo_append V W x all _ (Nat.le_refl _), getD_append, if_neg (Nat.lt_irrefl _), if_pos]

theorem redo_more (V : List Cell) (W : List Wr) (x : Wr) : redo V (W ++ [x]) all (W.length + 1) = (redo V W all W.length).set x.1 x.2 := by
  simp only [redo, redo_append V W x all _ (Nat.le_refl _), getD_append, if_neg (Nat.lt_irrefl _), if_pos, all]

theorem mem_set {α : Type} {l : List α} {i : Nat} {x c : α} (h : c ∈ l.set i x) : c ∈ l ∨ c = x := List.mem_or_eq_of_mem_set h

theorem redo_mem (V : List Cell) (W : List Wr) (k : Nat → Bool) (i : Nat) (h : i ≤ W.length) : ∀ c ∈ redo V W k i, c ∈ V ∨ ∃ x ∈ W, x.2 = c := by
  induction i with
  | zero => intro c hc; exact .inl hc
  | succ i ih =>
    intro c hc
    simp only [redo] at hc
    split at hc
    · rcases mem_set hc with hc | rfl
      · exact ih (by omega) c hc
      · refine .inr ⟨W.getD i dW, ?_, rfl⟩
        rw [List.getD_eq_getElem?_getD, List.getElem?_eq_getElem (show i < W.length by omega)]
        exact List.getElem_mem _
    · exact ih (by omega) c hc

/-- The store. -/
structure Mod where
  sz : Nat
  V : List Cell
  W : List Wr
  up : Bool
  ops : Nat
  arm : Nat
  kp : List Bool

def Mod.now (m : Mod) : List Cell := redo m.V m.W all m.W.length

/-- Behind a fall. -/
def Mod.crash (m : Mod) (keep : List Bool) : Mod := { m with V := redo m.V m.W (of keep) m.W.length, W := [], up := false, arm := 0, kp := [] }

/-- What is in flight is done as far as it is kept. -/
def Mod.settled (m : Mod) (keep : List Bool) : Mod := { m with V := redo m.V m.W (of keep) m.W.length, W := [] }

/-- An operation that is begun falls, or is none. -/
def Mod.fails (m : Mod) : Bool := !m.up || m.arm == 1

def Mod.began (m : Mod) : Mod := if m.up then (if m.arm = 1 then ({ m with ops := m.ops + 1 } : Mod).crash m.kp else { m with ops := m.ops + 1, arm := m.arm - 1 }) else m

def Mod.sync (m : Mod) : Mod := { m with V := m.now, W := [] }

end Go.Proofs.Yteehphmedmplkaa.md
