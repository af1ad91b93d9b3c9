/- Rows of structs as cells (places, changes), rows in new memory, a map of places in memory. No word of the program. -/
import Derived.Test.YtocbmjkbbbmncaaApp
import Derived.Laws.OwnMore
import Derived.Lib.SliceRun
namespace Go.Proofs.Ytocbmjkbbbmncaa.hp
open Go.RowKit
set_option linter.unusedVariables false

abbrev nv (a b : Int) : Value := .agg #[.int .i64 a, .int .i64 b]

/-- A place: leaf and tag. -/
def f2 (p : Int × Int) : List Value := [.int .i64 p.1, .int .i64 p.2]
/-- A change: id, leaf and tag. -/
def f3 (c : Int × Int × Int) : List Value := [.int .i64 c.1, .int .i64 c.2.1, .int .i64 c.2.2]

theorem len2 (p : Int × Int) : (f2 p).length = 2 := rfl
theorem len3 (c : Int × Int × Int) : (f3 c).length = 3 := rfl

section
variable {α : Type} {f : α → List Value} {s : Nat}

theorem flat_length (hf : ∀ x, (f x).length = s) (xs : List α) : (xs.flatMap f).length = xs.length * s := by
  induction xs with
  | nil => simp
  | cons x xs ih => rw [List.flatMap_cons, List.length_append, ih, hf, List.length_cons, Nat.add_mul]; omega

theorem flat_get (hf : ∀ x, (f x).length = s) (xs : List α) (i j : Nat) (hj : j < s) (x : α) (hx : xs[i]? = some x) : (xs.flatMap f)[i * s + j]? = (f x)[j]? := by
  induction xs generalizing i with
  | nil => simp at hx
  | cons y xs ih =>
    rw [List.flatMap_cons]
    cases i with
    | zero =>
      simp at hx
      subst hx
      rw [List.getElem?_append_left (by rw [hf]; omega)]
      congr 1
      omega
    | succ i =>
      have e : (i + 1) * s = i * s + s := Nat.succ_mul i s
      rw [List.getElem?_append_right (by rw [hf]; omega), hf]
      have := ih i (by simpa using hx)
      rw [← this]
      congr 1
      omega

end

theorem set2 (ps : List (Int × Int)) (i : Nat) (x : Int × Int) : ((ps.flatMap f2).set (i * 2) (.int .i64 x.1)).set (i * 2 + 1) (.int .i64 x.2) = (ps.set i x).flatMap f2 := by
  induction ps generalizing i with
  | nil => simp
  | cons y ps ih =>
    cases i with
    | zero => simp [f2]
    | succ i =>
      have e1 : (i + 1) * 2 = i * 2 + 1 + 1 := by omega
      rw [List.flatMap_cons, List.set_cons_succ, List.flatMap_cons, ← ih i, e1]
      simp [f2]

theorem one2 (ps : List (Int × Int)) : ∀ u ∈ ps.flatMap f2, u.oneCell' = true := by
  intro u hu
  obtain ⟨p, _, hp⟩ := List.mem_flatMap.1 hu
  simp [f2] at hp
  rcases hp with rfl | rfl <;> rfl

/-- The slice v of n elements shows the cells xs; where it shows any its block is one of which J holds. -/
def Lie (J : Nat → Prop) (w : World) (v : Value) (n : Nat) (xs : List Value) : Prop :=
  (v = .slice none 0 0 ∧ n = 0 ∧ xs = []) ∨ ∃ x c, v = .slice (some x) n c ∧ (xs ≠ [] → J x.block) ∧ ∀ i u, xs[i]? = some u → w.cell? (x.add i) = some u

theorem Lie.chg {F J : Nat → Prop} {w w' : World} {v : Value} {n : Nat} {xs : List Value} (h : Lie J w v n xs) (c : Chg F w w') (hn : ∀ k, J k → ¬ F k) : Lie J w' v n xs := by
  rcases h with h | ⟨x, cp, rfl, hJ, hc⟩
  · exact .inl h
  · exact .inr ⟨x, cp, rfl, hJ, fun i u hu => c.cell (hc i u hu) (by rw [add_block]; exact hn _ (hJ (ne_of_get hu)))⟩

theorem Lie.same {J : Nat → Prop} {w w' : World} {v : Value} {n : Nat} {xs : List Value} (h : Lie J w v n xs) (c : Chg no w w') : Lie J w' v n xs := h.chg c (fun _ _ h => h)

theorem Lie.mono {J K : Nat → Prop} {w : World} {v : Value} {n : Nat} {xs : List Value} (h : Lie J w v n xs) (hn : ∀ k, J k → K k) : Lie K w v n xs := by
  rcases h with h | ⟨x, cp, rfl, hJ, hc⟩
  · exact .inl h
  · exact .inr ⟨x, cp, rfl, fun e => hn _ (hJ e), hc⟩

theorem Lie.slice {J : Nat → Prop} {w : World} {v : Value} {n : Nat} {xs : List Value} (h : Lie J w v n xs) : ∃ a c, v = .slice a n c := by
  rcases h with ⟨rfl, rfl, _⟩ | ⟨x, c, rfl, _⟩
  · exact ⟨_, _, rfl⟩
  · exact ⟨_, _, rfl⟩

theorem Lie.of_owns {J : Nat → Prop} {w : World} {base : Nat} {e : TypeId} {s : Nat} {v : Value} {n : Nat} {xs : List Value} (h : w.ownsRow base e s v n xs) (hJ : ∀ k, v.ownBlock = some k → J k) : Lie J w v n xs := by
  rcases h.2 with ⟨rfl, hn⟩ | ⟨g, cap, cur, rfl, hb, hg, hc, hm, hs, ht⟩
  · exact .inl ⟨rfl, hn, List.eq_nil_of_length_eq_zero (by rw [h.1, hn]; simp)⟩
  · exact .inr ⟨_, _, rfl, fun _ => hJ g rfl, h.cells rfl⟩

theorem add_one (x : Addr) (i : Nat) : x.add (i + 1) = ⟨(x.add i).block, (x.add i).off + 1, none⟩ := by
  unfold Addr.add
  rw [if_neg (by omega)]
  split
  · subst_vars; simp
  · simp; omega

theorem add_field (x : Addr) (i j : Nat) : x.add (i + (j + 1)) = ⟨(x.add i).block, (x.add i).off + (j + 1), none⟩ := by
  unfold Addr.add
  rw [if_neg (by omega)]
  split
  · subst_vars; simp
  · simp; omega

theorem Lie.at2 {J : Nat → Prop} {w : World} {a : Option Addr} {n c m : Nat} {ps : List (Int × Int)} (h : Lie J w (.slice a n c) m (ps.flatMap f2)) {i : Nat} {l t : Int} (hx : ps[i]? = some (l, t)) :
    ∃ x, a = some x ∧ J x.block ∧ w.cell? (x.add (i * 2)) = some (.int .i64 l) ∧ w.cell? ⟨(x.add (i * 2)).block, (x.add (i * 2)).off + 1, none⟩ = some (.int .i64 t) := by
  have g0 := flat_get len2 ps i 0 (by omega) (l, t) hx
  have g1 := flat_get len2 ps i 1 (by omega) (l, t) hx
  rcases h with ⟨_, _, h⟩ | ⟨x, cp, hv, hJ, hc⟩
  · rw [h] at g0
    simp [f2] at g0
  · cases hv
    refine ⟨x, rfl, hJ (ne_of_get g0), hc _ _ g0, ?_⟩
    have := hc _ _ g1
    rw [add_one] at this
    exact this

theorem Lie.at3 {J : Nat → Prop} {w : World} {a : Option Addr} {n c m : Nat} {cs : List (Int × Int × Int)} (h : Lie J w (.slice a n c) m (cs.flatMap f3)) {i : Nat} {d l t : Int} (hx : cs[i]? = some (d, l, t)) :
    ∃ x, a = some x ∧ J x.block ∧ w.cell? (x.add (i * 3)) = some (.int .i64 d) ∧ w.cell? ⟨(x.add (i * 3)).block, (x.add (i * 3)).off + 1, none⟩ = some (.int .i64 l) ∧ w.cell? ⟨(x.add (i * 3)).block, (x.add (i * 3)).off + 2, none⟩ = some (.int .i64 t) := by
  have g0 := flat_get len3 cs i 0 (by omega) (d, l, t) hx
  have g1 := flat_get len3 cs i 1 (by omega) (d, l, t) hx
  have g2 := flat_get len3 cs i 2 (by omega) (d, l, t) hx
  rcases h with ⟨_, _, h⟩ | ⟨x, cp, hv, hJ, hc⟩
  · rw [h] at g0
    simp [f3] at g0
  · cases hv
    have h1 := hc _ _ g1
    have h2 := hc _ _ g2
    rw [add_field x (i * 3) 0] at h1
    rw [add_field x (i * 3) 1] at h2
    exact ⟨x, rfl, hJ (ne_of_get g0), hc _ _ g0, h1, h2⟩

/-- A row in new memory, of the caller's own. -/
def NewR {α : Type} (e : TypeId) (s : Nat) (f : α → List Value) (w : World) (xs : List α) (v : Value) (w' : World) : Prop := w'.ownsRow w.heap.size e s v xs.length (xs.flatMap f) ∧ Chg no w w'

section
variable {α : Type} {e : TypeId} {s : Nat} {f : α → List Value} {w w1 w2 w3 : World} {xs : List α} {v v' : Value}

theorem NewR.lie (h : NewR e s f w xs v w1) : Lie (fun k => w.heap.size ≤ k ∧ k < w1.heap.size) w1 v xs.length (xs.flatMap f) := Lie.of_owns h.1 h.1.lt

theorem NewR.shape (h : NewR e s f w xs v w1) : ∃ a c, v = .slice a xs.length c := owns_shape h.1

theorem NewR.same (h : NewR e s f w xs v w1) (k : Chg no w1 w2) : NewR e s f w xs v w2 := ⟨k.owns h.1 (fun _ _ h => h), h.2.then k⟩

theorem NewR.nil (k : Chg no w w1) : NewR e s f w [] (.slice none 0 0) w1 := ⟨World.ownsRow_nil _ _ _ _, k⟩

theorem NewR.add (h : NewR e s f w xs v w1) (k : Chg no w1 w2) (x : α) (o : w3.ownsRow 0 e s v' (xs.length + 1) (xs.flatMap f ++ f x)) (g : w2.grownBy w3 v.ownBlock) (p : ∀ b, v'.ownBlock = some b → v.ownBlock = some b ∨ w2.heap.size ≤ b) : NewR e s f w (xs ++ [x]) v' w3 := by
  have s1 := h.2.size
  have s2 := k.size
  have ef : (xs ++ [x]).flatMap f = xs.flatMap f ++ f x := by simp
  refine ⟨?_, (h.2.then k).grown g (fun b hb => .inr (h.1.lt b hb).1)⟩
  rw [ef, List.length_append]
  refine ⟨o.1, ?_⟩
  rcases o.2 with hh | ⟨b, cap, cur, e1, _, rest⟩
  · exact .inl hh
  · refine .inr ⟨b, cap, cur, e1, ?_, rest⟩
    rcases p b (by rw [e1]; rfl) with e2 | e2
    · exact (h.1.lt b e2).1
    · omega
end

/-! ### A map of places -/

/-- The map at p: its row of places, its row of marks. -/
structure Mp (T E : TypeId) (p : Nat) (pv cv : Value) (ps : List (Int × Int)) (ch : List Bool) (w : World) : Prop where
  blk : w.heap[p]? = some (.cells #[pv, cv] T (0, 0))
  row : w.ownsRow 0 E 2 pv ps.length (ps.flatMap f2)
  mks : w.ownsRow 0 4 1 cv ps.length (ch.map Value.bool)
  np : pv.ownBlock ≠ some p
  nc : cv.ownBlock ≠ some p
  pc : ∀ k, pv.ownBlock = some k → cv.ownBlock ≠ some k

/-- Its blocks. -/
def Ft (p : Nat) (pv cv : Value) : Nat → Prop := fun k => k = p ∨ pv.ownBlock = some k ∨ cv.ownBlock = some k

section
variable {T E : TypeId} {p : Nat} {pv cv : Value} {ps : List (Int × Int)} {ch : List Bool} {w w' : World}

theorem Mp.lt (h : Mp T E p pv cv ps ch w) : ∀ k, Ft p pv cv k → k < w.heap.size := by
  rintro k (rfl | e | e)
  · exact lt_of_block h.blk
  · exact (h.row.lt k e).2
  · exact (h.mks.lt k e).2

theorem Mp.chg {F : Nat → Prop} (h : Mp T E p pv cv ps ch w) (k : Chg F w w') (hF : ∀ b, Ft p pv cv b → ¬ F b) : Mp T E p pv cv ps ch w' :=
  ⟨k.heap h.blk (hF _ (.inl rfl)), k.owns h.row (fun b hb => hF b (.inr (.inl hb))), k.owns h.mks (fun b hb => hF b (.inr (.inr hb))), h.np, h.nc, h.pc⟩

theorem Mp.same (h : Mp T E p pv cv ps ch w) (k : Chg no w w') : Mp T E p pv cv ps ch w' := h.chg k (fun _ _ h => h)

theorem Mp.len (h : Mp T E p pv cv ps ch w) : ch.length = ps.length := by have := h.mks.1; simpa using this

theorem Mp.cells (h : Mp T E p pv cv ps ch w) : w.cell? ⟨p, 0, none⟩ = some pv ∧ w.cell? ⟨p, 1, none⟩ = some cv ∧ w.frozen? ⟨p, 1, none⟩ = false ∧ p < w.heap.size := by
  refine ⟨?_, ?_, ?_, lt_of_block h.blk⟩ <;> simp [World.cell?, World.frozen?, h.blk]

theorem Mp.shape (h : Mp T E p pv cv ps ch w) : (∃ a c, pv = .slice a ps.length c) ∧ ∃ a c, cv = .slice a ps.length c := ⟨owns_shape h.row, owns_shape h.mks⟩

/-- Where the k-th place lies. -/
theorem Mp.at (h : Mp T E p pv cv ps ch w) {k : Nat} {l t : Int} (hk : ps[k]? = some (l, t)) : ∃ g c, pv = .slice (some ⟨g, 0, none⟩) ps.length c ∧ w.cell? ⟨g, k * 2, none⟩ = some (.int .i64 l) ∧ w.cell? ⟨g, k * 2 + 1, none⟩ = some (.int .i64 t) ∧ w.frozen? ⟨g, k * 2, none⟩ = false ∧ w.frozen? ⟨g, k * 2 + 1, none⟩ = false ∧ g ≠ p ∧ g < w.heap.size := by
  have hl : k < ps.length := (List.getElem?_eq_some_iff.1 hk).1
  have hr := h.row
  rcases hr.2 with ⟨_, hn⟩ | ⟨g, cap, cur, hv, _⟩
  · omega
  · rw [hv] at hr
    refine ⟨g, cap, hv, ?_, ?_, hr.frozenAt _, hr.frozenAt _, fun e => h.np (by rw [hv, e]; rfl), (hr.lt g rfl).2⟩
    · rw [hr.cellAt _ (by omega)]
      exact flat_get len2 ps k 0 (by omega) _ hk
    · rw [hr.cellAt _ (by omega)]
      exact flat_get len2 ps k 1 (by omega) _ hk

/-- Where the k-th mark lies. -/
theorem Mp.mark_at (h : Mp T E p pv cv ps ch w) {k : Nat} {b : Bool} (hk : ch[k]? = some b) : ∃ g c, cv = .slice (some ⟨g, 0, none⟩) ps.length c ∧ w.cell? ⟨g, k, none⟩ = some (.bool b) ∧ w.frozen? ⟨g, k, none⟩ = false ∧ g ≠ p ∧ g < w.heap.size := by
  have hl : k < ch.length := (List.getElem?_eq_some_iff.1 hk).1
  have hm := h.mks
  have hlen := h.len
  rcases hm.2 with ⟨_, hn⟩ | ⟨g, cap, cur, hv, _⟩
  · omega
  · rw [hv] at hm
    refine ⟨g, cap, hv, ?_, hm.frozenAt _, fun e => h.nc (by rw [hv, e]; rfl), (hm.lt g rfl).2⟩
    rw [hm.cellAt _ (by omega), List.getElem?_map, hk]
    rfl

theorem Mp.put {g c : Nat} (h : Mp T E p (.slice (some ⟨g, 0, none⟩) ps.length c) cv ps ch w) (k : Nat) (x : Int × Int) : Mp T E p (.slice (some ⟨g, 0, none⟩) ps.length c) cv (ps.set k x) ch ((w.setCell ⟨g, k * 2, none⟩ (.int .i64 x.1)).setCell ⟨g, k * 2 + 1, none⟩ (.int .i64 x.2)) := by
  have r1 := (h.row.stored (k * 2) (.int .i64 x.1)).1
  have r2 := (r1.stored (k * 2 + 1) (.int .i64 x.2)).1
  rw [set2] at r2
  have C : Chg (fun b => b = g) w ((w.setCell ⟨g, k * 2, none⟩ (.int .i64 x.1)).setCell ⟨g, k * 2 + 1, none⟩ (.int .i64 x.2)) := by
    have c1 : Chg (fun b => b = g) w (w.setCell ⟨g, k * 2, none⟩ (.int .i64 x.1)) := (Chg.refl _ w).setCell _ _ (.inl rfl)
    exact c1.setCell _ _ (.inl rfl)
  have hgp : p ≠ g := fun e => h.np (by rw [e]; rfl)
  refine ⟨C.heap h.blk hgp, ?_, ?_, h.np, h.nc, h.pc⟩
  · rw [List.length_set]
    exact r2
  · rw [List.length_set]
    exact C.owns h.mks (fun b hb e => h.pc b (by rw [e]; rfl) hb)

theorem Mp.mark {g c n : Nat} (h : Mp T E p pv (.slice (some ⟨g, 0, none⟩) n c) ps ch w) (k : Nat) (b : Bool) : Mp T E p pv (.slice (some ⟨g, 0, none⟩) n c) ps (ch.set k b) (w.setCell ⟨g, k, none⟩ (.bool b)) := by
  obtain ⟨a', c', e⟩ := h.shape.2
  cases e
  have r1 := (h.mks.stored k (.bool b)).1
  have C : Chg (fun b => b = g) w (w.setCell ⟨g, k, none⟩ (.bool b)) := (Chg.refl _ w).setCell _ _ (.inl rfl)
  have hgp : p ≠ g := fun e => h.nc (by rw [e]; rfl)
  refine ⟨C.heap h.blk hgp, C.owns h.row (fun b hb e => h.pc b hb (by rw [e]; rfl)), ?_, h.np, h.nc, h.pc⟩
  rw [List.map_set]
  exact r1
end

theorem Chg.setCells {F : Nat → Prop} {a b : World} (h : Chg F a b) (g : Nat) (hg : F g ∨ a.heap.size ≤ g) : ∀ (vs : List Value) (o : Nat), Chg F a (b.setCells g o vs) := by
  intro vs
  induction vs generalizing b with
  | nil => exact fun o => h
  | cons v vs ih => exact fun o => ih (h.setCell _ _ hg) _

theorem owns_cells {base e n cap g : Nat} : ∀ (vs : List Value) (o : Nat) (w : World) (xs : List Value), w.ownsRow base e 1 (.slice (some ⟨g, 0, none⟩) n cap) n xs → ∃ ys, (w.setCells g o vs).ownsRow base e 1 (.slice (some ⟨g, 0, none⟩) n cap) n ys ∧ ∀ i, i < n → ys[i]? = if o ≤ i ∧ i < o + vs.length then vs[i - o]? else xs[i]? := by
  intro vs
  induction vs with
  | nil => exact fun o w xs h => ⟨xs, h, fun i hi => by rw [if_neg (by simp)]⟩
  | cons v vs ih =>
    intro o w xs h
    obtain ⟨ys, h1, h2⟩ := ih (o + 1) _ _ (h.stored o v).1
    refine ⟨ys, h1, fun i hi => ?_⟩
    have hl := h.1
    rw [h2 i hi, List.length_cons, List.getElem?_set]
    by_cases c1 : o + 1 ≤ i ∧ i < o + 1 + vs.length
    · rw [if_pos c1, if_pos (by omega)]
      have : i - o = (i - (o + 1)) + 1 := by omega
      rw [this, List.getElem?_cons_succ]
    · rw [if_neg c1]
      by_cases c2 : o = i
      · subst c2
        rw [if_pos rfl, if_pos (by omega), if_pos (by omega)]
        simp
      · rw [if_neg c2, if_neg (by omega)]

theorem Mp.cleared {T E : TypeId} {p : Nat} {pv : Value} {ps : List (Int × Int)} {ch : List Bool} {w : World} {g n c : Nat} (h : Mp T E p pv (.slice (some ⟨g, 0, none⟩) n c) ps ch w) : Mp T E p pv (.slice (some ⟨g, 0, none⟩) n c) ps (List.replicate n false) (w.setCells g 0 (List.replicate n (.bool false))) := by
  obtain ⟨a', c', e⟩ := h.shape.2
  cases e
  have C := (Chg.refl (fun b => b = g) w).setCells g (.inl rfl) (List.replicate ps.length (.bool false)) 0
  obtain ⟨ys, h1, h2⟩ := owns_cells (List.replicate ps.length (.bool false)) 0 w _ h.mks
  have hgp : p ≠ g := fun e => h.nc (by rw [e]; rfl)
  have hy : ys = (List.replicate ps.length false).map Value.bool := by
    have hl := h1.1
    apply List.ext_getElem?
    intro i
    by_cases hi : i < ps.length
    · rw [h2 i hi, if_pos (by simp; omega)]
      simp [hi]
    · rw [List.getElem?_eq_none (by omega), List.getElem?_eq_none (by simp; omega)]
  rw [hy] at h1
  exact ⟨C.heap h.blk hgp, C.owns h.row (fun b hb e => h.pc b hb (by rw [e]; rfl)), h1, h.np, h.nc, h.pc⟩

end Go.Proofs.Ytocbmjkbbbmncaa.hp
