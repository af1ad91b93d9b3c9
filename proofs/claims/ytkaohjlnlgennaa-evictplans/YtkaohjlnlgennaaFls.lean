/- Buckets' fills in memory: a slice that shows fills. -/
import Derived.Test.YtkaohjlnlgennaaArgs
import Derived.Test.YtkaohjlnlgennaaSmb
namespace Go.Proofs.Ytkaohjlnlgennaa.st
open Go.ChangeShapes Go.WideShapes Go.ChangeAt Go.RowKit Go.Proofs.Ytkaohjlnlgennaa.hp Go.Proofs.Ytkaohjlnlgennaa.tm Go.Proofs.Ytkaohjlnlgennaa.ev
set_option linter.unusedVariables false

theorem get_zero {xs : List Value} (h : xs ≠ []) : ∃ u, xs[0]? = some u := by
  cases xs with
  | nil => exact (h rfl).elim
  | cons u xs => exact ⟨u, rfl⟩

theorem Lies.old {J : Nat → Prop} {w : World} {v : Value} {xs : List Value} (h : Lies J w v xs) : Lies (Old w) w v xs := by
  rcases h with h | ⟨x, c, rfl, hJ, hc⟩
  · exact .inl h
  · refine .inr ⟨x, c, rfl, fun hne => ?_, hc⟩
    obtain ⟨u, hu⟩ := get_zero hne
    exact cell_lt (hc 0 u hu)

theorem Lie.old {J : Nat → Prop} {w : World} {v : Value} {n : Nat} {xs : List Value} (h : Lie J w v n xs) : Lie (Old w) w v n xs := by
  rcases h with h | ⟨x, c, rfl, hJ, hc⟩
  · exact .inl h
  · refine .inr ⟨x, c, rfl, fun hne => ?_, hc⟩
    obtain ⟨u, hu⟩ := get_zero hne
    exact cell_lt (hc 0 u hu)

theorem Lies.later {w w' : World} {v : Value} {xs : List Value} (h : Lies (Old w) w v xs) (c : Chg no w w') : Lies (Old w') w' v xs := Lies.old (h.chg c (fun _ _ h => h))
theorem Lie.later {w w' : World} {v : Value} {n : Nat} {xs : List Value} (h : Lie (Old w) w v n xs) (c : Chg no w w') : Lie (Old w') w' v n xs := Lie.old (h.chg c (fun _ _ h => h))

/-- A fill in memory: its bucket, the slice, the ids that it shows. -/
structure FV where
  b : Int
  v : Value
  d : List Int

def ff (x : FV) : List Value := [.int .i64 x.b, x.v]
theorem lenf (x : FV) : (ff x).length = 2 := rfl
def FV.fl (x : FV) : Int × List Int := (x.b, x.d)
def dFV : FV := ⟨0, .slice none 0 0, []⟩
def abs (xs : List FV) : List (Int × List Int) := xs.map FV.fl

theorem abs_len (xs : List FV) : (abs xs).length = xs.length := by simp [abs]
theorem abs_getD (xs : List FV) (j : Nat) : (abs xs).getD j (0, []) = (xs.getD j dFV).fl := by
  unfold abs
  rw [List.getD_eq_getElem?_getD, List.getD_eq_getElem?_getD, List.getElem?_map]
  cases xs[j]? <;> rfl

/-- The slice v shows these fills. -/
structure Fls (w : World) (v : Value) (xs : List FV) : Prop where
  row : Lie (Old w) w v xs.length (xs.flatMap ff)
  dat : ∀ x ∈ xs, Lies (Old w) w x.v (x.d.map (Value.int .i64))

theorem Fls.later {w w' : World} {v : Value} {xs : List FV} (h : Fls w v xs) (c : Chg no w w') : Fls w' v xs :=
  ⟨Lie.later h.row c, fun x hx => Lies.later (h.dat x hx) c⟩

theorem Fls.nil (w : World) : Fls w (.slice none 0 0) [] := ⟨.inl ⟨rfl, rfl, rfl⟩, fun x hx => by simp at hx⟩

theorem Fls.slice {w : World} {v : Value} {xs : List FV} (h : Fls w v xs) : ∃ a c, v = .slice a xs.length c := h.row.slice

/-- The i-th fill's cells, in the walk's own spelling. -/
theorem Fls.at {w : World} {a : Option Addr} {n c : Nat} {xs : List FV} (h : Fls w (.slice a n c) xs) (i : Nat) (hi : i < xs.length) :
    ∃ y ab cb, a = some y ∧ w.cell? (y.add (i * 2)) = some (.int .i64 (xs.getD i dFV).b) ∧ w.cell? ⟨(y.add (i * 2)).block, (y.add (i * 2)).off + 1, none⟩ = some (.slice ab (xs.getD i dFV).d.length cb) ∧
      (xs.getD i dFV).v = .slice ab (xs.getD i dFV).d.length cb ∧ Lies (Old w) w (.slice ab (xs.getD i dFV).d.length cb) ((xs.getD i dFV).d.map (Value.int .i64)) ∧ (y.add (i * 2)).block < w.heap.size ∧ (y.add (i * 2)).block ≠ w.heap.size := by
  have hx : xs[i]? = some (xs.getD i dFV) := by rw [List.getD_eq_getElem?_getD, List.getElem?_eq_getElem hi]; rfl
  have hm : xs.getD i dFV ∈ xs := List.mem_of_getElem? hx
  obtain ⟨B, hB⟩ : ∃ B, xs.getD i dFV = B := ⟨_, rfl⟩
  rw [hB] at hx hm ⊢
  have g0 := flat_get lenf xs i 0 (by omega) B hx
  have g1 := flat_get lenf xs i 1 (by omega) B hx
  have hd := h.dat B hm
  obtain ⟨ab, cb, hv, _⟩ := hd.slice
  simp only [List.length_map] at hv
  rcases h.row with ⟨_, h0, _⟩ | ⟨y, cp, hvv, hJ, hc⟩
  · omega
  · cases hvv
    have hlt : (y.add (i * 2)).block < w.heap.size := World.block_lt_of_cell? w _ (hc _ _ g0)
    refine ⟨y, ab, cb, rfl, hc _ _ g0, ?_, hv, by rw [hv] at hd; exact hd, hlt, by omega⟩
    have := hc _ _ g1
    rw [add_one, hv] at this
    exact this

/-- A row that was copied, its data where they lay. -/
theorem Fls.of_new {e : TypeId} {w w' : World} {v v' : Value} {xs : List FV} (h : NewR e 2 ff w xs v' w') (hf : Fls w v xs) : Fls w' v' xs :=
  ⟨Lie.old h.lie, fun x hx => Lies.later (hf.dat x hx) h.2⟩

theorem Fls.one {w : World} {v : Value} {xs : List FV} (h : Fls w v xs) : ∀ u ∈ xs.flatMap ff, u.oneCell' = true := by
  intro u hu
  obtain ⟨p, hp, hq⟩ := List.mem_flatMap.1 hu
  obtain ⟨a, c, hv, _⟩ := (h.dat p hp).slice
  simp [ff] at hq
  rcases hq with rfl | rfl
  · rfl
  · rw [hv]
    rfl

end Go.Proofs.Ytkaohjlnlgennaa.st
