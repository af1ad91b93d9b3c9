/- The program's oracle and the document's, side by side, and the cells that were made. -/
import Derived.Test.YtmchjnmmeankgaaArg
import Derived.Test.YtmchjnmmeankgaaArgs
namespace Go.Proofs.Ytmchjnmmeankgaa.st
open Go.ChangeShapes Go.WideShapes Go.ChangeAt Go.RowKit Go.Proofs.Ytmchjnmmeankgaa.hp Go.Proofs.Ytmchjnmmeankgaa.dg
set_option linter.unusedVariables false

/-- Both oracles, the row of cells, and the blocks N that stay. -/
structure PlayIn (w : World) (p q p' q' : Nat) (S1 S2 : OS) (mv : Value) (vs : List Value) (cs : List (List Int)) (F G H N : Nat → Prop) (wr : World) : Prop where
  orc : Orc p q S1 wr F
  ror : Rorc (Old w) p' q' S2 wr G
  row : wr.ownsRow 0 22 1 mv cs.length vs
  mH : ∀ k, mv.ownBlock = some k → H k
  each : ∀ i, i < cs.length → Lies N wr (vs.getD i undef) ((cs.getD i []).map (Value.int .u8)) ∧ Capd (vs.getD i undef) ∧ Bytes (cs.getD i [])
  fg : ∀ k, F k → ¬ G k ∧ ¬ H k ∧ ¬ N k ∧ w.heap.size ≤ k ∧ k < wr.heap.size
  gh : ∀ k, G k → ¬ H k ∧ ¬ N k ∧ w.heap.size ≤ k ∧ k < wr.heap.size
  hn : ∀ k, H k → ¬ N k ∧ w.heap.size ≤ k ∧ k < wr.heap.size
  nl : ∀ k, N k → k < wr.heap.size
  nold : ∀ k, Old w k → N k
  chg : Chg no w wr

/-- What lies in the blocks of N stays. -/
def Keeps (N N' : Nat → Prop) (wr w' : World) : Prop := ∀ k, N k → N' k ∧ w'.heap[k]? = wr.heap[k]?

theorem Keeps.lies {N N' : Nat → Prop} {wr w' : World} (h : Keeps N N' wr w') {v : Value} {xs : List Value} (hl : Lies N wr v xs) : Lies N' w' v xs := by
  rcases hl with hl | ⟨x, c, rfl, hJ, hc⟩
  · exact .inl hl
  · refine .inr ⟨x, c, rfl, fun e => (h _ (hJ e)).1, fun i u hu => ?_⟩
    have hb := (h _ (hJ (ne_of_get hu))).2
    have := hc i u hu
    rw [← this]
    exact World.cell?_of_block (by rw [add_block]; exact hb)

theorem Keeps.trans {N N' N'' : Nat → Prop} {a b c : World} (h : Keeps N N' a b) (h2 : Keeps N' N'' b c) : Keeps N N'' a c := fun k hk => ⟨(h2 k (h k hk).1).1, ((h2 k (h k hk).1).2).trans (h k hk).2⟩

theorem Keeps.heap {N N' : Nat → Prop} {wr w' : World} (h : Keeps N N' wr w') {k : Nat} {o : Obj} (hk : N k) (ho : wr.heap[k]? = some o) : w'.heap[k]? = some o := (h k hk).2.trans ho

section
variable {w wr w' : World} {p q p' q' : Nat} {S1 S2 : OS} {mv : Value} {vs : List Value} {cs : List (List Int)} {F G H N : Nat → Prop}

theorem PlayIn.same (h : PlayIn w p q p' q' S1 S2 mv vs cs F G H N wr) (k : Chg no wr w') : PlayIn w p q p' q' S1 S2 mv vs cs F G H N w' ∧ Keeps N N wr w' := by
  have s := k.size
  refine ⟨⟨h.orc.chg k (fun _ _ h => h), h.ror.same k, k.owns h.row (fun _ _ h => h), h.mH, fun i hi => ⟨(h.each i hi).1.chg k (fun _ _ h => h), (h.each i hi).2⟩, ?_, ?_, ?_, ?_, h.nold, h.chg.then k⟩, fun j hj => ⟨hj, k.block j (h.nl j hj) id⟩⟩
  · intro j hj
    obtain ⟨a, b, c, d, e⟩ := h.fg j hj
    exact ⟨a, b, c, d, by omega⟩
  · intro j hj
    obtain ⟨b, c, d, e⟩ := h.gh j hj
    exact ⟨b, c, d, by omega⟩
  · intro j hj
    obtain ⟨c, d, e⟩ := h.hn j hj
    exact ⟨c, d, by omega⟩
  · intro j hj
    have := h.nl j hj
    omega

/-- More blocks that stay. -/
theorem PlayIn.more (h : PlayIn w p q p' q' S1 S2 mv vs cs F G H N wr) {M : Nat → Prop} (hM : ∀ k, M k → ¬ F k ∧ ¬ G k ∧ ¬ H k ∧ k < wr.heap.size) : PlayIn w p q p' q' S1 S2 mv vs cs F G H (fun k => N k ∨ M k) wr ∧ Keeps N (fun k => N k ∨ M k) wr wr := by
  refine ⟨⟨h.orc, h.ror, h.row, h.mH, fun i hi => ⟨(h.each i hi).1.mono (fun _ hk => .inl hk), (h.each i hi).2⟩, ?_, ?_, ?_, ?_, fun k hk => .inl (h.nold k hk), h.chg⟩, fun k hk => ⟨.inl hk, rfl⟩⟩
  · intro j hj
    obtain ⟨a, b, c, d, e⟩ := h.fg j hj
    exact ⟨a, b, fun e2 => by rcases e2 with e2 | e2; exact c e2; exact (hM j e2).1 hj, d, e⟩
  · intro j hj
    obtain ⟨b, c, d, e⟩ := h.gh j hj
    exact ⟨b, fun e2 => by rcases e2 with e2 | e2; exact c e2; exact (hM j e2).2.1 hj, d, e⟩
  · intro j hj
    obtain ⟨c, d, e⟩ := h.hn j hj
    exact ⟨fun e2 => by rcases e2 with e2 | e2; exact c e2; exact (hM j e2).2.2.1 hj, d, e⟩
  · intro j hj
    rcases hj with hj | hj
    · exact h.nl j hj
    · exact (hM j hj).2.2.2

/-- A call on the program's oracle. -/
theorem PlayIn.left (h : PlayIn w p q p' q' S1 S2 mv vs cs F G H N wr) {S : OS} {v : Value} {xs : List Value} (f : Fine (Orc p q S) wr F v xs w') : ∃ F' N', PlayIn w p q p' q' S S2 mv vs cs F' G H N' w' ∧ Keeps N N' wr w' ∧ Lies N' w' v xs := by
  obtain ⟨F', f1, f2, f3, f4⟩ := f
  have s := f4.size
  have sw := h.chg.size
  have kp : Keeps N (fun k => N k ∨ (wr.heap.size ≤ k ∧ k < w'.heap.size ∧ ¬ F' k ∧ ¬ G k ∧ ¬ H k)) wr w' := fun k hk => ⟨.inl hk, f4.block k (h.nl k hk) (fun e => (h.fg k e).2.2.1 hk)⟩
  refine ⟨F', fun k => N k ∨ (wr.heap.size ≤ k ∧ k < w'.heap.size ∧ ¬ F' k ∧ ¬ G k ∧ ¬ H k), ⟨f1, h.ror.chg f4 (fun k hk e => (h.fg k e).1 hk) (fun k hk e => (h.fg k e).2.2.1 (h.nold k hk)), f4.owns h.row (fun k hk e => (h.fg k e).2.1 (h.mH k hk)), h.mH, fun i hi => ⟨kp.lies (h.each i hi).1, (h.each i hi).2⟩, ?_, ?_, ?_, ?_, fun k hk => .inl (h.nold k hk), h.chg.trans f4 (fun k hk => .inr (h.fg k hk).2.2.2.1)⟩, kp, ?_⟩
  · intro k hk
    obtain ⟨a1, a2⟩ := f2 k hk
    rcases a1 with e | e
    · obtain ⟨a, b, c, d, _⟩ := h.fg k e
      exact ⟨a, b, fun e2 => by rcases e2 with e2 | e2; exact c e2; exact e2.2.2.1 hk, d, a2⟩
    · refine ⟨fun e2 => by have := (h.gh k e2).2.2.2; omega, fun e2 => by have := (h.hn k e2).2.2; omega, fun e2 => ?_, by omega, a2⟩
      rcases e2 with e2 | e2
      · have := h.nl k e2
        omega
      · exact e2.2.2.1 hk
  · intro k hk
    obtain ⟨b, c, d, e⟩ := h.gh k hk
    exact ⟨b, fun e2 => by rcases e2 with e2 | e2; exact c e2; exact e2.2.2.2.1 hk, d, by omega⟩
  · intro k hk
    obtain ⟨c, d, e⟩ := h.hn k hk
    exact ⟨fun e2 => by rcases e2 with e2 | e2; exact c e2; exact e2.2.2.2.2 hk, d, by omega⟩
  · intro k hk
    rcases hk with hk | hk
    · have := h.nl k hk
      omega
    · exact hk.2.1
  · refine f3.mono (fun k hk => .inr ⟨hk.1, hk.2.1, hk.2.2, fun e => by have := (h.gh k e).2.2.2; omega, fun e => by have := (h.hn k e).2.2; omega⟩)

/-- A call on the document's. -/
theorem PlayIn.right (h : PlayIn w p q p' q' S1 S2 mv vs cs F G H N wr) {S : OS} {v : Value} {xs : List Value} (f : Fine (Rorc (Old w) p' q' S) wr G v xs w') : ∃ G' N', PlayIn w p q p' q' S1 S mv vs cs F G' H N' w' ∧ Keeps N N' wr w' ∧ Lies N' w' v xs := by
  obtain ⟨G', f1, f2, f3, f4⟩ := f
  have s := f4.size
  have sw := h.chg.size
  have kp : Keeps N (fun k => N k ∨ (wr.heap.size ≤ k ∧ k < w'.heap.size ∧ ¬ G' k ∧ ¬ F k ∧ ¬ H k)) wr w' := fun k hk => ⟨.inl hk, f4.block k (h.nl k hk) (fun e => (h.gh k e).2.1 hk)⟩
  refine ⟨G', fun k => N k ∨ (wr.heap.size ≤ k ∧ k < w'.heap.size ∧ ¬ G' k ∧ ¬ F k ∧ ¬ H k), ⟨h.orc.chg f4 (fun k hk e => (h.fg k hk).1 e), f1, f4.owns h.row (fun k hk e => (h.gh k e).1 (h.mH k hk)), h.mH, fun i hi => ⟨kp.lies (h.each i hi).1, (h.each i hi).2⟩, ?_, ?_, ?_, ?_, fun k hk => .inl (h.nold k hk), h.chg.trans f4 (fun k hk => .inr (h.gh k hk).2.2.1)⟩, kp, ?_⟩
  · intro k hk
    obtain ⟨a, b, c, d, e⟩ := h.fg k hk
    refine ⟨fun e2 => ?_, b, fun e2 => by rcases e2 with e2 | e2; exact c e2; exact e2.2.2.2.1 hk, d, by omega⟩
    rcases (f2 k e2).1 with e3 | e3
    · exact a e3
    · omega
  · intro k hk
    obtain ⟨a1, a2⟩ := f2 k hk
    rcases a1 with e | e
    · obtain ⟨b, c, d, _⟩ := h.gh k e
      exact ⟨b, fun e2 => by rcases e2 with e2 | e2; exact c e2; exact e2.2.2.1 hk, d, a2⟩
    · refine ⟨fun e2 => by have := (h.hn k e2).2.2; omega, fun e2 => ?_, by omega, a2⟩
      rcases e2 with e2 | e2
      · have := h.nl k e2
        omega
      · exact e2.2.2.1 hk
  · intro k hk
    obtain ⟨c, d, e⟩ := h.hn k hk
    exact ⟨fun e2 => by rcases e2 with e2 | e2; exact c e2; exact e2.2.2.2.2 hk, d, by omega⟩
  · intro k hk
    rcases hk with hk | hk
    · have := h.nl k hk
      omega
    · exact hk.2.1
  · refine f3.mono (fun k hk => .inr ⟨hk.1, hk.2.1, hk.2.2, fun e => by have := (h.fg k e).2.2.2.2; omega, fun e => by have := (h.hn k e).2.2; omega⟩)

/-- A cell more. -/
theorem PlayIn.add (h : PlayIn w p q p' q' S1 S2 mv vs cs F G H N wr) {w4 w5 : World} {v5 b : Value} {zs : List Int} (k4 : Chg no wr w4) (ho : w5.ownsRow 0 22 1 v5 (cs.length + 1) (vs ++ [b])) (hg : w4.grownBy w5 mv.ownBlock) (hp : ∀ k, v5.ownBlock = some k → mv.ownBlock = some k ∨ w4.heap.size ≤ k)
    (hb : Lies N wr b (zs.map (Value.int .u8))) (hc : Capd b) (hz : Bytes zs) : ∃ H', PlayIn w p q p' q' S1 S2 v5 (vs ++ [b]) (cs ++ [zs]) F G H' N w5 ∧ Keeps N N wr w5 := by
  have s4 := k4.size
  have s5 := hg.size
  have sw := h.chg.size
  have C : Chg H wr w5 := (k4.of_no H).grown hg (fun k hk => .inl (h.mH k hk))
  have kp : Keeps N N wr w5 := fun k hk => ⟨hk, C.block k (h.nl k hk) (fun e => (h.hn k e).1 hk)⟩
  have hvl : vs.length = cs.length := by have := h.row.1; omega
  have hn5 : ∀ k, v5.ownBlock = some k → (H k ∨ wr.heap.size ≤ k) ∧ k < w5.heap.size := fun k hk => ⟨by rcases hp k hk with e | e; exact .inl (h.mH k e); exact .inr (by omega), (ho.lt k hk).2⟩
  refine ⟨fun k => v5.ownBlock = some k, ⟨h.orc.chg C (fun k hk e => (h.fg k hk).2.1 e), h.ror.chg C (fun k hk e => (h.gh k hk).1 e) (fun k hk e => (h.hn k e).1 (h.nold k hk)), ?_, fun k hk => hk, ?_, ?_, ?_, ?_, ?_, h.nold, h.chg.trans C (fun k hk => .inr (h.hn k hk).2.1)⟩, kp⟩
  · rw [List.length_append]
    exact ho
  · intro i hi
    rw [List.length_append] at hi
    by_cases hil : i < cs.length
    · have e1 : (vs ++ [b]).getD i undef = vs.getD i undef := by rw [List.getD_eq_getElem?_getD, List.getD_eq_getElem?_getD, List.getElem?_append_left (by omega)]
      have e2 : (cs ++ [zs]).getD i [] = cs.getD i [] := by rw [List.getD_eq_getElem?_getD, List.getD_eq_getElem?_getD, List.getElem?_append_left hil]
      rw [e1, e2]
      exact ⟨kp.lies (h.each i hil).1, (h.each i hil).2⟩
    · have hie : i = cs.length := by simp at hi; omega
      subst hie
      have e1 : (vs ++ [b]).getD cs.length undef = b := by rw [List.getD_eq_getElem?_getD, ← hvl]; simp
      have e2 : (cs ++ [zs]).getD cs.length [] = zs := by rw [List.getD_eq_getElem?_getD]; simp
      rw [e1, e2]
      exact ⟨kp.lies hb, hc, hz⟩
  · intro k hk
    obtain ⟨a, b', c, d, e⟩ := h.fg k hk
    exact ⟨a, fun e2 => by rcases (hn5 k e2).1 with e3 | e3; exact b' e3; omega, c, d, by omega⟩
  · intro k hk
    obtain ⟨b', c, d, e⟩ := h.gh k hk
    exact ⟨fun e2 => by rcases (hn5 k e2).1 with e3 | e3; exact b' e3; omega, c, d, by omega⟩
  · intro k hk
    obtain ⟨e1, e2⟩ := hn5 k hk
    rcases e1 with e1 | e1
    · obtain ⟨c, d, _⟩ := h.hn k e1
      exact ⟨c, d, e2⟩
    · exact ⟨fun e3 => by have := h.nl k e3; omega, by omega, e2⟩
  · intro k hk
    have := h.nl k hk
    have := C.size
    omega
end

end Go.Proofs.Ytmchjnmmeankgaa.st
