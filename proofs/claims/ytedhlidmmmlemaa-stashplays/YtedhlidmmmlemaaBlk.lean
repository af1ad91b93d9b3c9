/- Blocks in memory: a slice that shows blocks; a row of blocks of the call's own. -/
import Derived.Test.YtedhlidmmmlemaaBkm
import Derived.Test.YtedhlidmmmlemaaFlb
namespace Go.Proofs.Ytedhlidmmmlemaa.st
open Go.ChangeShapes Go.WideShapes Go.ChangeAt Go.RowKit Go.Proofs.Ytedhlidmmmlemaa.hp
set_option linter.unusedVariables false

/-- The blocks of memory that there are. -/
def Old (w : World) : Nat → Prop := fun k => k < w.heap.size

theorem cell_lt {w : World} {a : Addr} {i : Nat} {u : Value} (h : w.cell? (a.add i) = some u) : Old w a.block := by
  have := World.block_lt_of_cell? w _ h
  rwa [add_block] at this

theorem get_zero {xs : List Value} (h : xs ≠ []) : ∃ u, xs[0]? = some u := by
  cases xs with
  | nil => exact (h rfl).elim
  | cons u xs => exact ⟨u, rfl⟩

theorem Lies.old {J : Nat → Prop} {w : World} {v : Value} {xs : List Value} (h : Lies J w v xs) : Lies (Old w) w v xs := by
  rcases h with h | ⟨x, c, rfl, hJ, hc⟩
  · exact .inl h
  · refine .inr ⟨x, c, rfl, fun hne => ?_, hc⟩
    obtain ⟨u, hu⟩ := get_zero hne
    exact cell_lt (hc 0 u hu)

theorem Lie.old {J : Nat → Prop} {w : World} {v : Value} {n : Nat} {xs : List Value} (h : Lie J w v n xs) : Lie (Old w) w v n xs := by
  rcases h with h | ⟨x, c, rfl, hJ, hc⟩
  · exact .inl h
  · refine .inr ⟨x, c, rfl, fun hne => ?_, hc⟩
    obtain ⟨u, hu⟩ := get_zero hne
    exact cell_lt (hc 0 u hu)

theorem Lies.later {w w' : World} {v : Value} {xs : List Value} (h : Lies (Old w) w v xs) (c : Chg no w w') : Lies (Old w') w' v xs := Lies.old (h.chg c (fun _ _ h => h))

/-- A block in memory: its id, the slice, the bytes that it shows. -/
structure BV where
  id : Int
  v : Value
  d : List Int

def fb (b : BV) : List Value := [.int .i64 b.id, b.v]
theorem lenb (b : BV) : (fb b).length = 2 := rfl
def BV.bk (b : BV) : Bk := (b.id, b.d)
def dBV : BV := ⟨0, .slice none 0 0, []⟩
def abs (xs : List BV) : List Bk := xs.map BV.bk

theorem abs_len (xs : List BV) : (abs xs).length = xs.length := by simp [abs]
theorem abs_getD (xs : List BV) (j : Nat) : (abs xs).getD j dBk = (xs.getD j dBV).bk := by
  unfold abs
  rw [List.getD_eq_getElem?_getD, List.getD_eq_getElem?_getD, List.getElem?_map]
  cases xs[j]? <;> rfl

/-- The slice v shows these blocks. -/
structure Bks (w : World) (v : Value) (xs : List BV) : Prop where
  row : Lie (Old w) w v xs.length (xs.flatMap fb)
  dat : ∀ x ∈ xs, Lies (Old w) w x.v (x.d.map (Value.int .u8)) ∧ Bytes x.d

theorem Bks.later {w w' : World} {v : Value} {xs : List BV} (h : Bks w v xs) (c : Chg no w w') : Bks w' v xs :=
  ⟨Lie.old (h.row.same c), fun x hx => ⟨Lies.later (h.dat x hx).1 c, (h.dat x hx).2⟩⟩

theorem Bks.nil (w : World) : Bks w (.slice none 0 0) [] := ⟨.inl ⟨rfl, rfl, rfl⟩, fun x hx => by simp at hx⟩

theorem Bks.slice {w : World} {v : Value} {xs : List BV} (h : Bks w v xs) : ∃ a c, v = .slice a xs.length c := h.row.slice

/-- The i-th block's cells, in the walk's own spelling. -/
theorem Bks.at {w : World} {a : Option Addr} {n c : Nat} {xs : List BV} (h : Bks w (.slice a n c) xs) (i : Nat) (hi : i < xs.length) :
    ∃ y ab cb, a = some y ∧ w.cell? (y.add (i * 2)) = some (.int .i64 (xs.getD i dBV).id) ∧ w.cell? ⟨(y.add (i * 2)).block, (y.add (i * 2)).off + 1, none⟩ = some (.slice ab (xs.getD i dBV).d.length cb) ∧
      (xs.getD i dBV).v = .slice ab (xs.getD i dBV).d.length cb ∧ Lies (Old w) w (.slice ab (xs.getD i dBV).d.length cb) ((xs.getD i dBV).d.map (Value.int .u8)) ∧ Bytes (xs.getD i dBV).d ∧ (y.add (i * 2)).block < w.heap.size ∧ (y.add (i * 2)).block ≠ w.heap.size := by
  have hx : xs[i]? = some (xs.getD i dBV) := by rw [List.getD_eq_getElem?_getD, List.getElem?_eq_getElem hi]; rfl
  have hm : xs.getD i dBV ∈ xs := List.mem_of_getElem? hx
  obtain ⟨B, hB⟩ : ∃ B, xs.getD i dBV = B := ⟨_, rfl⟩
  rw [hB] at hx hm ⊢
  have g0 := flat_get lenb xs i 0 (by omega) B hx
  have g1 := flat_get lenb xs i 1 (by omega) B hx
  obtain ⟨hd, hby⟩ := h.dat B hm
  obtain ⟨ab, cb, hv, _⟩ := hd.slice
  simp only [List.length_map] at hv
  rcases h.row with ⟨_, h0, _⟩ | ⟨y, cp, hvv, hJ, hc⟩
  · omega
  · cases hvv
    have hlt : (y.add (i * 2)).block < w.heap.size := World.block_lt_of_cell? w _ (hc _ _ g0)
    refine ⟨y, ab, cb, rfl, hc _ _ g0, ?_, hv, by rw [hv] at hd; exact hd, hby, hlt, by omega⟩
    have := hc _ _ g1
    rw [add_one, hv] at this
    exact this

theorem lie_fn {w : World} {y : Addr} {cap : Nat} {xs : List BV} (h : ∀ i, i < xs.length → w.cell? (y.add (i * 2)) = some (.int .i64 (xs.getD i dBV).id) ∧ w.cell? (y.add (i * 2 + 1)) = some (xs.getD i dBV).v) : Lie (Old w) w (.slice (some y) xs.length cap) xs.length (xs.flatMap fb) := by
  refine Lie.old (J := fun _ => True) (.inr ⟨y, cap, rfl, fun _ => trivial, fun i u hu => ?_⟩)
  have hi : i < xs.length * 2 := by
    have := (List.getElem?_eq_some_iff.1 hu).1
    rwa [flat_length lenb] at this
  have hq : i / 2 < xs.length := by omega
  have hx : xs[i / 2]? = some (xs.getD (i / 2) dBV) := by rw [List.getD_eq_getElem?_getD, List.getElem?_eq_getElem hq]; rfl
  have hg := flat_get lenb xs (i / 2) (i % 2) (by omega) _ hx
  have he : i / 2 * 2 + i % 2 = i := by omega
  rw [he, hu] at hg
  obtain ⟨h0, h1⟩ := h (i / 2) hq
  have hr : i % 2 = 0 ∨ i % 2 = 1 := by omega
  rcases hr with hr | hr
  · rw [hr] at hg he
    simp [fb] at hg
    rw [hg]
    have := h0
    rw [show i = i / 2 * 2 by omega]
    simpa using this
  · rw [hr] at hg he
    simp [fb] at hg
    rw [hg]
    have := h1
    rw [show i = i / 2 * 2 + 1 by omega]
    rw [show (i / 2 * 2 + 1) / 2 = i / 2 by omega]
    exact this

/-! ### A row of blocks of the call's own -/

/-- It lies in memory that is new since w; the data in the blocks of D; besides only blocks of F were written. -/
structure NewB (e : TypeId) (F : Nat → Prop) (w : World) (D : Nat → Prop) (xs : List BV) (v : Value) (w' : World) : Prop where
  row : w'.ownsRow w.heap.size e 2 v xs.length (xs.flatMap fb)
  chg : Chg F w w'
  fl : ∀ k, F k → k < w.heap.size
  dat : ∀ x ∈ xs, Lies D w' x.v (x.d.map (Value.int .u8)) ∧ Bytes x.d
  sep : ∀ k, v.ownBlock = some k → ¬ D k
  dF : ∀ k, D k → ¬ F k
  dl : ∀ k, D k → k < w'.heap.size

theorem NewB.bks {e : TypeId} {F D : Nat → Prop} {w w' : World} {xs : List BV} {v : Value} (h : NewB e F w D xs v w') : Bks w' v xs :=
  ⟨Lie.old (Lie.of_owns (J := fun _ => True) h.row (fun _ _ => trivial)), fun x hx => ⟨Lies.old (h.dat x hx).1, (h.dat x hx).2⟩⟩

theorem NewB.start {e : TypeId} {F D : Nat → Prop} {w : World} (hF : ∀ k, F k → k < w.heap.size) (hD : ∀ k, D k → ¬ F k ∧ k < w.heap.size) : NewB e F w D [] (.slice none 0 0) w :=
  ⟨World.ownsRow_nil _ _ _ _, Chg.refl _ _, hF, fun x hx => by simp at hx, fun k hk => by simp [Value.ownBlock] at hk, fun k hk => (hD k hk).1, fun k hk => (hD k hk).2⟩

theorem NewB.shape {e : TypeId} {F D : Nat → Prop} {w w' : World} {xs : List BV} {v : Value} (h : NewB e F w D xs v w') : ∃ a c, v = .slice a xs.length c := owns_shape h.row

/-- A row of the call's own, ready to grow. -/
theorem NewB.ready {e : TypeId} {F D : Nat → Prop} {w wr : World} {xs : List BV} {v : Value} (h : NewB e F w D xs v wr) :
    ∃ a c n XS, v = .slice a n c ∧ n = xs.length ∧ (∀ W, Chg F wr W → W.ownsRow 0 e 2 (.slice a n c) n XS) ∧
      ∀ (x : BV) (D' : Nat → Prop) (W : World) (v' : Value) (w3 : World), Chg F wr W → Lies D' W x.v (x.d.map (Value.int .u8)) → Bytes x.d → (∀ k, D k → D' k) → (∀ k, D' k → D k ∨ (wr.heap.size ≤ k ∧ k < W.heap.size)) →
        w3.ownsRow 0 e 2 v' (n + 1) (XS ++ fb x) → W.grownBy w3 (Value.slice a n c).ownBlock → (∀ b, v'.ownBlock = some b → (Value.slice a n c).ownBlock = some b ∨ W.heap.size ≤ b) → NewB e F w D' (xs ++ [x]) v' w3 := by
  obtain ⟨a, c, rfl⟩ := h.shape
  have s0 := h.chg.size
  have hv : ∀ k, (Value.slice a xs.length c).ownBlock = some k → w.heap.size ≤ k ∧ k < wr.heap.size := fun k hk => h.row.lt k hk
  refine ⟨a, c, _, _, rfl, rfl, fun W k => owns_base (k.owns h.row (fun b hb hf => by have := h.fl b hf; have := hv b hb; omega)) (Nat.zero_le _), ?_⟩
  intro x D' W v' w3 k hx hby hD hD' o g p
  have s1 := k.size
  have s2 := g.size
  have G : Chg (fun b => (Value.slice a xs.length c).ownBlock = some b) W w3 := (Chg.refl _ W).grown g (fun b hb => .inl hb)
  have ef : (xs ++ [x]).flatMap fb = xs.flatMap fb ++ fb x := by simp
  have nD' : ∀ b, D' b → ¬ (Value.slice a xs.length c).ownBlock = some b := by
    intro b hb hv'
    rcases hD' b hb with e1 | e1
    · exact h.sep b hv' e1
    · have := hv b hv'
      omega
  refine ⟨?_, ?_, h.fl, ?_, ?_, ?_, ?_⟩
  · rw [ef, List.length_append]
    refine ⟨o.1, ?_⟩
    rcases o.2 with hh | ⟨b, cap, cur, e1, _, rest⟩
    · exact .inl hh
    · refine .inr ⟨b, cap, cur, e1, ?_, rest⟩
      rcases p b (by rw [e1]; rfl) with e2 | e2
      · exact (hv b e2).1
      · omega
  · exact (h.chg.then k).trans G (fun b hb => .inr (hv b hb).1)
  · intro y hy
    rcases List.mem_append.1 hy with hy | hy
    · refine ⟨(((h.dat y hy).1.chg k (fun b hb => h.dF b hb)).mono hD).chg G nD', (h.dat y hy).2⟩
    · simp at hy
      subst hy
      exact ⟨hx.chg G nD', hby⟩
  · intro b hb hd
    rcases p b hb with e1 | e1
    · exact nD' b hd e1
    · rcases hD' b hd with e2 | e2
      · have := h.dl b e2
        omega
      · omega
  · intro b hb hf
    rcases hD' b hb with e1 | e1
    · exact h.dF b e1 hf
    · have := h.fl b hf
      omega
  · intro b hb
    rcases hD' b hb with e1 | e1
    · have := h.dl b e1
      omega
    · omega

theorem NewB.same {e : TypeId} {F D : Nat → Prop} {w w' w2 : World} {xs : List BV} {v : Value} (h : NewB e F w D xs v w') (k : Chg F w' w2) : NewB e F w D xs v w2 :=
  ⟨k.owns h.row (fun b hb hf => by have := h.fl b hf; have := h.row.lt b hb; omega), h.chg.then k, h.fl, fun x hx => ⟨(h.dat x hx).1.chg k (fun b hb => h.dF b hb), (h.dat x hx).2⟩, h.sep, h.dF, fun b hb => Nat.lt_of_lt_of_le (h.dl b hb) k.size⟩

theorem oneB (xs : List BV) (h : ∀ x ∈ xs, ∃ a l c, x.v = .slice a l c) : ∀ u ∈ xs.flatMap fb, u.oneCell' = true := by
  intro u hu
  obtain ⟨p, hp, hq⟩ := List.mem_flatMap.1 hu
  obtain ⟨a, l, c, hv⟩ := h p hp
  simp [fb] at hq
  rcases hq with rfl | rfl
  · rfl
  · rw [hv]
    rfl

theorem one_b (i : Int) (a : Option Addr) (l c : Nat) : ∀ u ∈ ([.int .i64 i, .slice a l c] : List Value), u.oneCell' = true := by
  intro u hu
  simp at hu
  rcases hu with rfl | rfl <;> rfl

end Go.Proofs.Ytedhlidmmmlemaa.st
