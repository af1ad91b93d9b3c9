/- What the walk of CellsSure carries: the store, and the two lists beside it. -/
import Derived.Test.YtjmdjadnllakpaaCopy
namespace Go.Proofs.Ytjmdjadnllakpaa.su
open Go.ChangeShapes Go.WideShapes Go.ChangeAt Go.RowKit Go.Proofs.Ytjmdjadnllakpaa.hp Go.Proofs.Ytjmdjadnllakpaa.md Go.Proofs.Ytjmdjadnllakpaa.st
set_option linter.unusedVariables false

def kept (m : Mod) (f : Nat → Bool) : List Cell := redo m.V m.W f m.W.length

theorem kept_put (m : Mod) (x : Wr) (f : Nat → Bool) : kept (Mod.put m x) f = if f m.W.length then (kept m f).set x.1 x.2 else kept m f := by
  have e : (m.W ++ [x]).length = m.W.length + 1 := by simp
  simp only [kept, Mod.put, e, redo, redo_append m.V m.W x f _ (Nat.le_refl _), getD_append, if_neg (Nat.lt_irrefl _), if_true]

theorem getD_set (l : List Cell) (a i : Nat) (x : Cell) (ha : a < l.length) : (l.set a x).getD i dC = if i = a then x else l.getD i dC := by
  simp only [List.getD_eq_getElem?_getD, List.getElem?_set]
  by_cases h : a = i
  · subst h; simp [ha]
  · have h' : ¬ i = a := fun e => h e.symm
    simp [h, h']

theorem ops_later {w w' : World} {a : Option Addr} {len : Nat} {O : Nat → OpA} (h : OpsAt w a len O) (c : Chg no w w') : OpsAt w' a len O := by
  intro i hi
  obtain ⟨x, rfl, hx, e0, e1, e2, e3, l2, l3, hw⟩ := h i hi
  have ho : ∀ j, Old w j → Old w' j := fun j hj => Nat.lt_of_lt_of_le hj c.size
  exact ⟨x, rfl, ho _ hx, c.cell e0 id, c.cell e1 id, c.cell e2 id, c.cell e3 id, (l2.chg c (fun _ _ h => h)).mono ho, (l3.chg c (fun _ _ h => h)).mono ho, hw⟩

/-- The store is up and not armed. -/
structure Live (n k : Nat) (m : Mod) : Prop where
  up : m.up = true
  arm : m.arm = 0
  kp : m.kp = []
  sz : m.sz = 4
  V : m.V.length = n
  ops : m.ops = k

section
variable {n k : Nat} {m : Mod}

theorem Live.fails (h : Live n k m) : m.fails = false := by simp [Mod.fails, h.up, h.arm]

theorem Live.began (h : Live n k m) : m.began = { m with ops := m.ops + 1, arm := m.arm - 1 } := (began_ok m h.fails).1

theorem Live.next (h : Live n k m) : Live n (k + 1) m.began := by
  rw [h.began]
  exact ⟨h.up, by simp [h.arm], h.kp, h.sz, h.V, by simp [h.ops]⟩

theorem Live.put (h : Live n k m) (x : Wr) : Live n k (Mod.put m x) := ⟨h.up, h.arm, h.kp, h.sz, h.V, h.ops⟩

theorem Live.sync (h : Live n k m) : Live n k m.sync := ⟨h.up, h.arm, h.kp, h.sz, by simp [Mod.sync, Mod.now, redo_length, h.V], h.ops⟩

theorem Live.kept (h : Live n k m) (f : Nat → Bool) : kept m.began f = kept m f := by rw [h.began]; rfl
theorem Live.len (h : Live n k m) : m.began.W = m.W := by rw [h.began]
end

/-- The bytes that a cell must show: those of the second list, where it has any. -/
def want (WA NO : List Cell) (i : Nat) : List Int := if (NO.getD i dC).2 = [] then (WA.getD i dC).2 else (NO.getD i dC).2

/-- p: the store; gw, gn: the blocks of the two lists; R: the blocks that their slices show. -/
structure S (w : World) (p gw gn : Nat) (R : Nat → Prop) (n k : Nat) (F : Nat → Prop) (m : Mod) (WA NO : List Cell) (wr : World) : Prop where
  st : St wr p F m
  live : Live n k m
  was : wr.heap[gw]? = some (.cells (WA.map (·.1)).toArray 32 (0, 0))
  now : wr.heap[gn]? = some (.cells (NO.map (·.1)).toArray 32 (0, 0))
  lw : WA.length = n
  ln : NO.length = n
  rw' : ∀ c ∈ WA, c.2.length = 4 ∧ Lies R wr c.1 (c.2.map (Value.int .u8))
  rn : ∀ c ∈ NO, c = dC ∨ (c.2.length = 4 ∧ Lies R wr c.1 (c.2.map (Value.int .u8)))
  fr : ∀ j, F j → ¬ R j ∧ j ≠ gw ∧ j ≠ gn ∧ w.heap.size ≤ j
  rl : ∀ j, R j → j < wr.heap.size ∧ j ≠ gw ∧ j ≠ gn
  ne : gw ≠ gn ∧ w.heap.size ≤ gw ∧ w.heap.size ≤ gn
  chg : Chg no w wr

section
variable {w wr w' : World} {p gw gn n k : Nat} {R F : Nat → Prop} {m : Mod} {WA NO : List Cell}

/-- An operation of the store. -/
theorem S.op (h : S w p gw gn R n k F m WA NO wr) {F' : Nat → Prop} {m' : Mod} {k' : Nat} (s : St w' p F' m') (c : Chg F wr w') (hF : ∀ j, F' j → F j ∨ wr.heap.size ≤ j) (l : Live n k' m') : S w p gw gn R n k' F' m' WA NO w' := by
  have hl1 := lt_of_block h.was
  have hl2 := lt_of_block h.now
  have hc := h.chg.size
  refine ⟨s, l, c.heap h.was (fun e => (h.fr _ e).2.1 rfl), c.heap h.now (fun e => (h.fr _ e).2.2.1 rfl), h.lw, h.ln, fun x hx => ⟨(h.rw' x hx).1, (h.rw' x hx).2.chg c (fun j hj e => (h.fr j e).1 hj)⟩, ?_, ?_, ?_, h.ne, h.chg.trans c (fun j hj => .inr (h.fr j hj).2.2.2)⟩
  · intro x hx
    rcases h.rn x hx with e | ⟨e1, e2⟩
    · exact .inl e
    · exact .inr ⟨e1, e2.chg c (fun j hj e => (h.fr j e).1 hj)⟩
  · intro j hj
    rcases hF j hj with e | e
    · exact h.fr j e
    · exact ⟨fun hr => by have := (h.rl j hr).1; omega, by omega, by omega, by omega⟩
  · intro j hj
    obtain ⟨r1, r2, r3⟩ := h.rl j hj
    exact ⟨Nat.lt_of_lt_of_le r1 c.size, r2, r3⟩

theorem S.same (h : S w p gw gn R n k F m WA NO wr) (c : Chg no wr w') : S w p gw gn R n k F m WA NO w' := h.op (h.st.same c) (c.of_no F) (fun j hj => .inl hj) h.live

theorem S.setw (h : S w p gw gn R n k F m WA NO wr) (a : Nat) (v : Value) (zs : List Int) (hz : zs.length = 4) (hv : Lies R wr v (zs.map (Value.int .u8))) :
    S w p gw gn R n k F m (WA.set a (v, zs)) NO (wr.setCell ⟨gw, a, none⟩ v) := by
  have c : Chg (fun j => j = gw) wr (wr.setCell ⟨gw, a, none⟩ v) := (Chg.refl _ wr).setCell _ _ (.inl rfl)
  have hR : ∀ j, R j → ¬ j = gw := fun j hj => (h.rl j hj).2.1
  refine ⟨h.st.chg c (fun j hj => (h.fr j hj).2.1), h.live, ?_, c.heap h.now (fun e => h.ne.1 e.symm), by simpa using h.lw, h.ln, ?_, ?_, h.fr, fun j hj => ⟨by simpa using (h.rl j hj).1, (h.rl j hj).2⟩, h.ne, h.chg.setCell _ _ (.inr h.ne.2.1)⟩
  · rw [row_set h.was a v, List.map_set]
  · intro x hx
    rcases mem_set hx with hx | rfl
    · exact ⟨(h.rw' x hx).1, (h.rw' x hx).2.chg c hR⟩
    · exact ⟨hz, hv.chg c hR⟩
  · intro x hx
    rcases h.rn x hx with e | ⟨e1, e2⟩
    · exact .inl e
    · exact .inr ⟨e1, e2.chg c hR⟩

theorem S.setn (h : S w p gw gn R n k F m WA NO wr) (a : Nat) (v : Value) (zs : List Int) (hz : zs.length = 4) (hv : Lies R wr v (zs.map (Value.int .u8))) :
    S w p gw gn R n k F m WA (NO.set a (v, zs)) (wr.setCell ⟨gn, a, none⟩ v) := by
  have c : Chg (fun j => j = gn) wr (wr.setCell ⟨gn, a, none⟩ v) := (Chg.refl _ wr).setCell _ _ (.inl rfl)
  have hR : ∀ j, R j → ¬ j = gn := fun j hj => (h.rl j hj).2.2
  refine ⟨h.st.chg c (fun j hj => (h.fr j hj).2.2.1), h.live, c.heap h.was h.ne.1, ?_, h.lw, by simpa using h.ln, ?_, ?_, h.fr, fun j hj => ⟨by simpa using (h.rl j hj).1, (h.rl j hj).2⟩, h.ne, h.chg.setCell _ _ (.inr h.ne.2.2)⟩
  · rw [row_set h.now a v, List.map_set]
  · exact fun x hx => ⟨(h.rw' x hx).1, (h.rw' x hx).2.chg c hR⟩
  · intro x hx
    rcases mem_set hx with hx | rfl
    · rcases h.rn x hx with e | ⟨e1, e2⟩
      · exact .inl e
      · exact .inr ⟨e1, e2.chg c hR⟩
    · exact .inr ⟨hz, hv.chg c hR⟩

theorem S.cellw (h : S w p gw gn R n k F m WA NO wr) (i : Nat) (hi : i < n) : wr.cell? ⟨gw, i, none⟩ = some (WA.getD i dC).1 ∧ wr.frozen? ⟨gw, i, none⟩ = false ∧ (WA.getD i dC).2.length = 4 ∧ Lies R wr (WA.getD i dC).1 ((WA.getD i dC).2.map (Value.int .u8)) := by
  have hl := h.lw
  have hm : WA.getD i dC ∈ WA := by
    rw [List.getD_eq_getElem?_getD, List.getElem?_eq_getElem (by omega)]
    exact List.getElem_mem _
  obtain ⟨h1, h2⟩ := row_cell h.was i (WA.getD i dC).1 (by rw [List.getElem?_map, List.getD_eq_getElem?_getD, List.getElem?_eq_getElem (by omega)]; rfl)
  exact ⟨h1, h2, h.rw' _ hm⟩

theorem S.celln (h : S w p gw gn R n k F m WA NO wr) (i : Nat) (hi : i < n) : wr.cell? ⟨gn, i, none⟩ = some (NO.getD i dC).1 ∧ wr.frozen? ⟨gn, i, none⟩ = false ∧ (NO.getD i dC = dC ∨ ((NO.getD i dC).2.length = 4 ∧ Lies R wr (NO.getD i dC).1 ((NO.getD i dC).2.map (Value.int .u8)))) := by
  have hl := h.ln
  have hm : NO.getD i dC ∈ NO := by
    rw [List.getD_eq_getElem?_getD, List.getElem?_eq_getElem (by omega)]
    exact List.getElem_mem _
  obtain ⟨h1, h2⟩ := row_cell h.now i (NO.getD i dC).1 (by rw [List.getElem?_map, List.getD_eq_getElem?_getD, List.getElem?_eq_getElem (by omega)]; rfl)
  exact ⟨h1, h2, h.rn _ hm⟩
end

/-- Four bytes lie somewhere. -/
theorem lies_four {R : Nat → Prop} {w : World} {v : Value} {zs : List Int} (h : Lies R w v (zs.map (Value.int .u8))) (hz : zs.length = 4) : ∃ x c, v = .slice (some x) 4 c := by
  rcases h with ⟨_, h0⟩ | ⟨x, c, h1, _⟩
  · have : zs = [] := by simpa using h0
    rw [this] at hz
    simp at hz
  · exact ⟨x, c, by rw [h1]; simp [hz]⟩

theorem want_setn (WA NO : List Cell) (a i : Nat) (v : Value) (zs : List Int) (ha : a < NO.length) (hz : zs.length = 4) : want WA (NO.set a (v, zs)) i = if i = a then zs else want WA NO i := by
  unfold want
  rw [getD_set NO a i (v, zs) ha]
  by_cases h : i = a
  · simp [h]
    intro e
    rw [e] at hz
    simp at hz
  · simp [h]

theorem bytes_setw (WA : List Cell) (a i : Nat) (v : Value) (zs : List Int) (ha : a < WA.length) : ((WA.set a (v, zs)).getD i dC).2 = if i = a then zs else (WA.getD i dC).2 := by
  rw [getD_set WA a i (v, zs) ha]
  split <;> rfl

theorem kept_bytes (m : Mod) (a i : Nat) (v : Value) (zs : List Int) (f : Nat → Bool) (ha : a < m.V.length) : ((kept (Mod.put m (a, v, zs)) f).getD i dC).2 = if f m.W.length = true ∧ i = a then zs else ((kept m f).getD i dC).2 := by
  rw [kept_put]
  have hl : (kept m f).length = m.V.length := redo_length _ _ _ _
  by_cases hf : f m.W.length = true
  · rw [if_pos hf, getD_set _ _ _ _ (by simpa [hl] using ha)]
    by_cases hi : i = a
    · simp [hf, hi]
    · simp [hi]
  · rw [if_neg hf]
    simp [hf]
end Go.Proofs.Ytjmdjadnllakpaa.su
