/- A row sifted in place: those that stay are written over its front, while its rest is read. -/
import Derived.Test.YtkaohjlnlgennaaFls
namespace Go.Proofs.Ytkaohjlnlgennaa.hp
open Go.RowKit
set_option linter.unusedVariables false
set_option linter.unusedSimpArgs false

/-- append where there is room. -/
theorem wpList_append_room {P : Program} {w : World} {ops : Array Oper} {rest : List Oper} {o : Oper} {a : Act} {Q : Exit → Act → World → Prop} (hgd : o.guard = none) (s x : Operand) (t : TypeId)
    (ho : o.op = .call { callee := .builtin .append, args := #[s, x], argTypes := #[t, t] }) (e : TypeId) (i : TypeInfo) (size : Nat) (ht : P.underlying t = some (.slice e)) (hi : P.info? e = some i) (hsize : i.size = size)
    (g n cap : Nat) (cur : List Value) (hg : w.heap[g]? = some (.cells cur.toArray e (0, 0))) (hs : a.eval s = .slice (some ⟨g, 0, none⟩) n cap)
    (ad : Addr) (m c : Nat) (news : List Value) (hx : a.eval x = .slice (some ad) m c) (hl : news.length = m * size) (hnews : ∀ j u, news[j]? = some u → w.cell? (ad.add j) = some u) (h1 : ∀ u ∈ news, u.oneCell' = true)
    (hroom : n + m ≤ cap) (hfit : n * size + news.length ≤ cur.length)
    (h : ∀ w', Hid (w'.heap[g]? = some (.cells (cur.take (n * size) ++ news ++ cur.drop (n * size + news.length)).toArray e (0, 0))) → Hid (Chg (fun k => k = g) w w') → wpList P ops Q rest (a.put o.dst (.slice (some ⟨g, 0, none⟩) (n + m) cap)) w') : wpList P ops Q (o :: rest) a w := by
  refine wpList_plain hgd fun K hK => ?_
  subst hsize
  have hrun := run_append_room (P := P) w t o.type e i ht hi g n cap cur.toArray hg ad m c news hl hnews h1 hroom (by simpa using hfit)
  unfold Oper.wp
  simp [execOp, ho, resolve, invoke, builtin, hs, hx, hrun, Result.andThen]
  have r1 := setRow_heap w g _ (cur.take (n * i.size) ++ news ++ cur.drop (n * i.size + news.length)).toArray e _ hg
  have r2 := chg_setRow w g (cur.take (n * i.size) ++ news ++ cur.drop (n * i.size + news.length)).toArray
  have := hK _ _ (h _ r1 r2)
  simp only [List.append_assoc] at this
  exact this

/-- Sifted as far as i: those that stay lie in front, the rest of the row is as it was. -/
structure Sft (g c n i : Nat) (L R : List (Int × Int)) (w : World) : Prop where
  ex : ∃ cur : List Value, w.heap[g]? = some (.cells cur.toArray 35 (0, 0)) ∧ cur.length = c * 2 ∧ cur.take (R.length * 2) = R.flatMap f2 ∧ ∀ j, i * 2 ≤ j → j < n * 2 → cur[j]? = (L.flatMap f2)[j]?
  nc : n ≤ c
  cm : c ≤ maxLen
  ri : R.length ≤ i
  ln : L.length = n

section
variable {g c n i : Nat} {L R : List (Int × Int)} {w w' : World}

theorem Sft.start (h : w.ownsRow 0 35 2 (.slice (some ⟨g, 0, none⟩) n c) n (L.flatMap f2)) (hn : L.length = n) : Sft g c n 0 L [] w := by
  obtain ⟨_, _, cur, h1, h2, h3, h4, h5⟩ := owns_open h
  refine ⟨⟨cur, h1, h4, rfl, fun j _ hj => ?_⟩, h2, h3, Nat.le_refl _, hn⟩
  rw [← h5, List.getElem?_take_of_lt hj]

theorem Sft.chg {F : Nat → Prop} (h : Sft g c n i L R w) (k : Chg F w w') (hF : ¬ F g) : Sft g c n i L R w' := by
  obtain ⟨cur, h1, rest⟩ := h.ex
  exact ⟨⟨cur, k.heap h1 hF, rest⟩, h.nc, h.cm, h.ri, h.ln⟩

theorem Sft.lt (h : Sft g c n i L R w) : g < w.heap.size := by
  obtain ⟨cur, h1, rest⟩ := h.ex
  exact lt_of_block h1

theorem Sft.at (h : Sft g c n i L R w) (hi : i < n) : w.cell? ⟨g, i * 2, none⟩ = some (.int .i64 (L.getD i (0, 0)).1) ∧ w.cell? ⟨g, i * 2 + 1, none⟩ = some (.int .i64 (L.getD i (0, 0)).2) := by
  obtain ⟨cur, h1, h2, h3, h4⟩ := h.ex
  have hx : L[i]? = some (L.getD i (0, 0)) := by rw [List.getD_eq_getElem?_getD, List.getElem?_eq_getElem (by rw [h.ln]; exact hi)]; rfl
  have g0 := flat_get len2 L i 0 (by omega) _ hx
  have g1 := flat_get len2 L i 1 (by omega) _ hx
  exact ⟨(row_cell h1 (i * 2) _ (by rw [h4 _ (by omega) (by omega)]; simpa [f2] using g0)).1, (row_cell h1 (i * 2 + 1) _ (by rw [h4 _ (by omega) (by omega)]; exact g1)).1⟩

theorem Sft.skip (h : Sft g c n i L R w) : Sft g c n (i + 1) L R w := by
  obtain ⟨cur, h1, h2, h3, h4⟩ := h.ex
  have := h.ri
  exact ⟨⟨cur, h1, h2, h3, fun j hj hn => h4 j (by omega) hn⟩, h.nc, h.cm, by omega, h.ln⟩

/-- One stays. -/
theorem Sft.put (h : Sft g c n i L R w) (hi : i < n) : ∃ cur : List Value, w.heap[g]? = some (.cells cur.toArray 35 (0, 0)) ∧ R.length + 1 ≤ c ∧ R.length * 2 + 2 ≤ cur.length ∧
    ∀ (x : Int × Int) (W : World), W.heap[g]? = some (.cells (cur.take (R.length * 2) ++ f2 x ++ cur.drop (R.length * 2 + 2)).toArray 35 (0, 0)) → Sft g c n (i + 1) L (R ++ [x]) W := by
  obtain ⟨cur, h1, h2, h3, h4⟩ := h.ex
  have hr := h.ri
  have hc := h.nc
  have hfit : R.length * 2 + 2 ≤ cur.length := by omega
  refine ⟨cur, h1, by omega, hfit, fun x W hW => ⟨⟨_, hW, ?_, ?_, ?_⟩, hc, h.cm, by simp; omega, h.ln⟩⟩
  · simp only [List.length_append, List.length_take, List.length_drop, len2]
    omega
  · rw [h3, List.flatMap_append, List.length_append, List.length_singleton, Nat.add_mul, List.take_append_of_le_length (by simp [flat_length len2, len2])]
    rw [List.take_of_length_le (by simp [flat_length len2, len2])]
    simp
  · intro j hj hn
    rw [← h4 j (by omega) hn, List.getElem?_append_right (by simp [len2]; omega)]
    rw [List.getElem?_drop]
    congr 1
    simp only [List.length_append, List.length_take, len2]
    omega

theorem Sft.done (h : Sft g c n i L R w) (hi : i ≤ n) : w.ownsRow 0 35 2 (.slice (some ⟨g, 0, none⟩) R.length c) R.length (R.flatMap f2) := by
  obtain ⟨cur, h1, h2, h3, h4⟩ := h.ex
  have hr := h.ri
  have hc := h.nc
  exact owns_shut h1 (by omega) h.cm h2 h3
end

end Go.Proofs.Ytkaohjlnlgennaa.hp
