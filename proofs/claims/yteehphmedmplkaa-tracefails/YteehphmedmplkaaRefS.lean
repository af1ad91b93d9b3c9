/- The document's own store in memory (oubref2.Store), and laws on appends and calls within regions. -/
import Derived.Test.YteehphmedmplkaaCopy
import Derived.Deep.RegionLaw
namespace Go.Proofs.Yteehphmedmplkaa.st
open Go.ChangeShapes Go.WideShapes Go.ChangeAt Go.RowKit Go.Proofs.Yteehphmedmplkaa.hp Go.Proofs.Yteehphmedmplkaa.md
set_option linter.unusedVariables false

/-- A call of a Go function, as one step of a region that draws. -/
theorem step_call {P : Program} {ops : Array Oper} {o : Oper} {a : Act} {w : World} {K : Act → World → Prop} {Q : Exit → Act → World → Prop} {E : Prop} (hg : o.guard = none) (f : FuncId) (args : Array Value)
    (hrun : (execOp a.eval o).run P w = .ok (.enter f args) w) {post : Ending → World → Prop} (hc : Calls P f args w post)
    (h : ∀ e w', post e w' → ∃ r, e = .returned r ∧ K (a.put o.dst r) w') :
    if Region.wanted o (yielded ops a.tmps) = true then Oper.wp P o a w K Q else E := by
  have hw : Region.wanted o (yielded ops a.tmps) = true := by simp [Region.wanted, hg]
  rw [if_pos hw]
  unfold Oper.wp
  rw [hrun, Oper.upon_enter]
  refine hc.mono fun e w' hp => ?_
  obtain ⟨r, rfl, hk⟩ := h e w' hp
  exact hk

/-- append to a row of the call's own, outside of a region that draws; the row lies where it lay, or in new memory. -/
theorem wpList_append_at {P : Program} {w : World} {ops : Array Oper} {rest : List Oper} {o : Oper} {a : Act} {Q : Exit → Act → World → Prop} (hgd : o.guard = none) (s x : Operand) (t : TypeId)
    (ho : o.op = .call { callee := .builtin .append, args := #[s, x], argTypes := #[t, t] })
    (e : TypeId) (i : TypeInfo) (z : Value) (size bytes : Nat) (ht : P.underlying t = some (.slice e)) (hi : P.info? e = some i) (hz : i.zero = some z)
    (hsize : i.size = size) (hby : i.bytes = bytes) (hzs : z.cells.size = size) (hsz : 0 < size)
    (v : Value) (n : Nat) (xs : List Value) (hs : a.eval s = v) (hown : w.ownsRow 0 e size v n xs)
    (ad : Addr) (m c : Nat) (news : List Value) (hx : a.eval x = .slice (some ad) m c) (hl : news.length = m * size) (hnews : ∀ j u, news[j]? = some u → w.cell? (ad.add j) = some u) (h1 : ∀ u ∈ news, u.oneCell' = true)
    (h63 : n + m ≤ maxLen) (hbytes : (n + m) * bytes ≤ 140737488355328)
    (h : ∀ v' w', w'.ownsRow 0 e size v' (n + m) (xs ++ news) → w.grownBy w' v.ownBlock → (∀ k, v'.ownBlock = some k → v.ownBlock = some k ∨ w.heap.size ≤ k) → wpList P ops Q rest (a.put o.dst v') w') : wpList P ops Q (o :: rest) a w := by
  refine wpList_plain hgd fun K hK => ?_
  have := step_append_at (ops := ops) (E := False) (K := K) (Q := Q) (a := a) (w := w) hgd s x t ho e i z size bytes ht hi hz hsize hby hzs hsz v n xs hs hown ad m c news hx hl hnews h1 h63 hbytes (fun v' w' r1 r2 r3 => hK _ _ (h v' w' r1 r2 r3))
  have hw : Region.wanted o (yielded ops a.tmps) = true := by simp [Region.wanted, hgd]
  rwa [if_pos hw] at this

/-- The writes in flight, as the document's store holds them. -/
def pairs : List Wr → List Value
  | [] => []
  | x :: W => .int .i64 x.1 :: x.2.1 :: pairs W

theorem pairs_length (W : List Wr) : (pairs W).length = W.length * 2 := by
  induction W with
  | nil => rfl
  | cons x W ih => simp [pairs, ih]; omega

theorem pairs_append (W : List Wr) (x : Wr) : pairs (W ++ [x]) = pairs W ++ [.int .i64 x.1, x.2.1] := by
  induction W with
  | nil => rfl
  | cons y W ih => simp [pairs, ih]

theorem pairs_get (W : List Wr) (i : Nat) (h : i < W.length) : (pairs W)[i * 2]? = some (.int .i64 (W.getD i dW).1) ∧ (pairs W)[i * 2 + 1]? = some (W.getD i dW).2.1 := by
  induction W generalizing i with
  | nil => simp at h
  | cons y W ih =>
    match i, h with
    | 0, _ => exact ⟨rfl, rfl⟩
    | i + 1, h =>
      obtain ⟨h1, h2⟩ := ih i (by simpa using h)
      rw [show (i + 1) * 2 = i * 2 + 1 + 1 by omega, show i * 2 + 1 + 1 + 1 = (i * 2 + 1) + 1 + 1 by omega]
      simp only [pairs, List.getElem?_cons_succ, List.getD_cons_succ]
      exact ⟨h1, h2⟩

/-- The document's store at block q. A: the number of the last Arm as it stands now, K: its keep; vt: what was recorded, t of them. -/
structure Rto (w : World) (q gc : Nat) (F I : Nat → Prop) (m : Mod) (b : Bool) (A : Int) (K : List Bool) (vf vk vt : Value) (t : Nat) (T : List Value) : Prop where
  blk : w.heap[q]? = some (.cells #[.int .i64 m.sz, .int .i64 A, .int .i64 m.ops, .bool b, .bool (!m.up), vk, .slice (some ⟨gc, 0, none⟩) m.V.length m.V.length, vf, vt] 53 (0, 0))
  row : w.heap[gc]? = some (.cells (m.V.map (·.1)).toArray 31 (0, 0))
  fly : w.ownsRow 0 79 2 vf m.W.length (pairs m.W)
  trc : w.ownsRow 0 64 3 vt t T
  kep : Lies I w vk (K.map Value.bool)
  bytV : ∀ c ∈ m.V, Byt I w m.sz c
  bytW : ∀ x ∈ m.W, Byt I w m.sz x.2
  bytL : ∀ x ∈ m.W, Lies I w x.2.1 (x.2.2.map (Value.int .u8))
  adr : ∀ x ∈ m.W, x.1 < m.V.length
  num : 1 ≤ m.sz ∧ m.sz ≤ 4096 ∧ 1 ≤ m.V.length ∧ m.V.length ≤ 65536 ∧ m.W.length ≤ m.ops ∧ m.arm ≤ 9223372036854775807 ∧ t ≤ m.ops
  pgc : q ≠ gc
  fpg : ∀ k, vf.ownBlock = some k → k ≠ q ∧ k ≠ gc ∧ ¬ I k ∧ F k
  tpg : ∀ k, vt.ownBlock = some k → k ≠ q ∧ k ≠ gc ∧ ¬ I k ∧ F k ∧ vf.ownBlock ≠ some k
  ip : ¬ I q
  igc : ¬ I gc
  fp : F q
  fgc : F gc
  fi : ∀ k, I k → F k
  lt : ∀ k, F k → k < w.heap.size

/-- The document's store at block q, in the blocks of F. -/
def Rt (w : World) (q : Nat) (F : Nat → Prop) (m : Mod) : Prop := ∃ gc I b A K vf vk vt t T, Rto w q gc F I m b A K vf vk vt t T ∧ b = decide (m.arm ≠ 0) ∧ (m.arm ≠ 0 → A = m.arm ∧ K = m.kp)

section
variable {w w' : World} {q gc : Nat} {F G I : Nat → Prop} {m : Mod} {b : Bool} {A : Int} {K : List Bool} {vf vk vt : Value} {t : Nat} {T : List Value}

theorem Rto.chg (h : Rto w q gc F I m b A K vf vk vt t T) (c : Chg G w w') (hn : ∀ k, F k → ¬ G k) : Rto w' q gc F I m b A K vf vk vt t T :=
  ⟨c.heap h.blk (hn _ h.fp), c.heap h.row (hn _ h.fgc), c.owns h.fly (fun k hk => hn _ (h.fpg k hk).2.2.2), c.owns h.trc (fun k hk => hn _ (h.tpg k hk).2.2.2.1), h.kep.chg c (fun k hk => hn _ (h.fi k hk)),
    fun x hx => (h.bytV x hx).chg c (fun k hk => hn _ (h.fi k hk)), fun x hx => (h.bytW x hx).chg c (fun k hk => hn _ (h.fi k hk)), fun x hx => (h.bytL x hx).chg c (fun k hk => hn _ (h.fi k hk)), h.adr, h.num, h.pgc, h.fpg, h.tpg, h.ip, h.igc, h.fp, h.fgc, h.fi, fun k hk => Nat.lt_of_lt_of_le (h.lt k hk) c.size⟩

theorem Rt.chg (h : Rt w q F m) (c : Chg G w w') (hn : ∀ k, F k → ¬ G k) : Rt w' q F m := by
  obtain ⟨gc, I, b, A, K, vf, vk, vt, t, T, h, hb⟩ := h
  exact ⟨gc, I, b, A, K, vf, vk, vt, t, T, h.chg c hn, hb⟩

theorem Rt.same (h : Rt w q F m) (c : Chg no w w') : Rt w' q F m := h.chg c fun _ _ h => h

theorem Rto.wide (h : Rto w q gc F I m b A K vf vk vt t T) (hn : ∀ k, F k → G k) (hl : ∀ k, G k → k < w.heap.size) : Rto w q gc G I m b A K vf vk vt t T :=
  ⟨h.blk, h.row, h.fly, h.trc, h.kep, h.bytV, h.bytW, h.bytL, h.adr, h.num, h.pgc, fun k hk => ⟨(h.fpg k hk).1, (h.fpg k hk).2.1, (h.fpg k hk).2.2.1, hn _ (h.fpg k hk).2.2.2⟩,
    fun k hk => ⟨(h.tpg k hk).1, (h.tpg k hk).2.1, (h.tpg k hk).2.2.1, hn _ (h.tpg k hk).2.2.2.1, (h.tpg k hk).2.2.2.2⟩, h.ip, h.igc, hn _ h.fp, hn _ h.fgc, fun k hk => hn _ (h.fi k hk), hl⟩

theorem Rt.wide (h : Rt w q F m) (hn : ∀ k, F k → G k) (hl : ∀ k, G k → k < w.heap.size) : Rt w q G m := by
  obtain ⟨gc, I, b, A, K, vf, vk, vt, t, T, h, hb⟩ := h
  exact ⟨gc, I, b, A, K, vf, vk, vt, t, T, h.wide hn hl, hb⟩

theorem Rt.lt (h : Rt w q F m) : ∀ k, F k → k < w.heap.size := by
  obtain ⟨gc, I, b, A, K, vf, vk, vt, t, T, h, _⟩ := h
  exact h.lt

theorem Rto.cells (h : Rto w q gc F I m b A K vf vk vt t T) : w.cell? ⟨q, 0, none⟩ = some (.int .i64 m.sz) ∧ w.cell? ⟨q, 1, none⟩ = some (.int .i64 A) ∧ w.cell? ⟨q, 2, none⟩ = some (.int .i64 m.ops) ∧
    w.cell? ⟨q, 3, none⟩ = some (.bool b) ∧ w.cell? ⟨q, 4, none⟩ = some (.bool (!m.up)) ∧ w.cell? ⟨q, 5, none⟩ = some vk ∧ w.cell? ⟨q, 6, none⟩ = some (.slice (some ⟨gc, 0, none⟩) m.V.length m.V.length) ∧
    w.cell? ⟨q, 7, none⟩ = some vf ∧ w.cell? ⟨q, 8, none⟩ = some vt := by
  simp [World.cell?, h.blk]

theorem Rto.free (h : Rto w q gc F I m b A K vf vk vt t T) (j : Nat) : w.frozen? ⟨q, j, none⟩ = false := by
  simp [World.frozen?, h.blk]

theorem Rto.blk_set (h : Rto w q gc F I m b A K vf vk vt t T) (j : Nat) (u : Value) : (w.setCell ⟨q, j, none⟩ u).heap[q]? = some (.cells (([.int .i64 m.sz, .int .i64 A, .int .i64 m.ops, .bool b, .bool (!m.up), vk, .slice (some ⟨gc, 0, none⟩) m.V.length m.V.length, vf, vt] : List Value).set j u).toArray 53 (0, 0)) :=
  row_set (xs := [_, _, _, _, _, _, _, _, _]) h.blk j u

theorem Rto.cellAt (h : Rto w q gc F I m b A K vf vk vt t T) (i : Nat) (hi : i < m.V.length) : w.cell? ⟨gc, i, none⟩ = some (m.V.getD i dC).1 ∧ w.frozen? ⟨gc, i, none⟩ = false ∧ Byt I w m.sz (m.V.getD i dC) := by
  have hm : m.V.getD i dC ∈ m.V := by
    rw [List.getD_eq_getElem?_getD, List.getElem?_eq_getElem hi]
    exact List.getElem_mem _
  obtain ⟨h1, h2⟩ := row_cell h.row i (m.V.getD i dC).1 (by rw [List.getElem?_map, List.getD_eq_getElem?_getD, List.getElem?_eq_getElem hi]; rfl)
  exact ⟨h1, h2, h.bytV _ hm⟩

theorem Rto.flyAt (h : Rto w q gc F I m b A K vf vk vt t T) : ∃ af cf, vf = .slice af m.W.length cf ∧ ∀ i, i < m.W.length → ∃ gf, af = some ⟨gf, 0, none⟩ ∧ gf ≠ q ∧ gf ≠ gc ∧ gf < w.heap.size ∧ w.cell? ⟨gf, i * 2, none⟩ = some (.int .i64 (m.W.getD i dW).1) ∧
      w.cell? ⟨gf, i * 2 + 1, none⟩ = some (m.W.getD i dW).2.1 ∧ (m.W.getD i dW).1 < m.V.length ∧ Byt I w m.sz (m.W.getD i dW).2 ∧ Lies I w (m.W.getD i dW).2.1 ((m.W.getD i dW).2.2.map (Value.int .u8)) := by
  have hs := h.fpg
  have hlt := h.lt
  rcases h.fly.2 with ⟨rfl, hn⟩ | ⟨g, cap, cur, rfl, hb, hg, hc, hm, hsz, ht⟩
  · exact ⟨_, _, by rw [hn], fun i hi => by omega⟩
  · refine ⟨_, _, rfl, fun i hi => ⟨g, rfl, (hs g rfl).1, (hs g rfl).2.1, hlt g (hs g rfl).2.2.2, ?_⟩⟩
    obtain ⟨r1, r2⟩ := pairs_get m.W i hi
    have hmem : m.W.getD i dW ∈ m.W := by
      rw [List.getD_eq_getElem?_getD, List.getElem?_eq_getElem hi]
      exact List.getElem_mem _
    exact ⟨by rw [h.fly.cellAt (i * 2) (by omega)]; exact r1, by rw [h.fly.cellAt (i * 2 + 1) (by omega)]; exact r2, h.adr _ hmem, h.bytW _ hmem, h.bytL _ hmem⟩

/-- Cells of the store's own block turn. -/
theorem Rto.put (h : Rto w q gc F I m b A K vf vk vt t T) (c : Chg (fun k => k = q) w w') {up' : Bool} {ops' arm' : Nat} {kp' : List Bool} {b' : Bool} {A' : Int} {K' : List Bool} {vk' : Value}
    (hb : w'.heap[q]? = some (.cells #[.int .i64 m.sz, .int .i64 A', .int .i64 ops', .bool b', .bool (!up'), vk', .slice (some ⟨gc, 0, none⟩) m.V.length m.V.length, vf, vt] 53 (0, 0)))
    (hk : Lies I w' vk' (K'.map Value.bool)) (ho : m.ops ≤ ops') (ha : arm' ≤ 9223372036854775807) : Rto w' q gc F I ⟨m.sz, m.V, m.W, up', ops', arm', kp'⟩ b' A' K' vf vk' vt t T := by
  have hI : ∀ k, I k → ¬ k = q := fun k hk e => h.ip (e ▸ hk)
  have hn := h.num
  exact ⟨hb, c.heap h.row (fun e => h.pgc e.symm), c.owns h.fly (fun k hk => (h.fpg k hk).1), c.owns h.trc (fun k hk => (h.tpg k hk).1), hk, fun x hx => (h.bytV x hx).chg c hI, fun x hx => (h.bytW x hx).chg c hI, fun x hx => (h.bytL x hx).chg c hI, h.adr,
    ⟨hn.1, hn.2.1, hn.2.2.1, hn.2.2.2.1, Nat.le_trans hn.2.2.2.2.1 ho, ha, Nat.le_trans hn.2.2.2.2.2.2 ho⟩, h.pgc, h.fpg, h.tpg, h.ip, h.igc, h.fp, h.fgc, h.fi, fun k hk => Nat.lt_of_lt_of_le (h.lt k hk) c.size⟩
end

theorem rup_any {w : World} {q : Nat} {F : Nat → Prop} {m : Mod} (h : Rt w q F m) :
    Calls Try.prog 26 #[.pointer (some ⟨q, 0, none⟩)] w fun e w' => e = .returned (.bool m.up) ∧ w' = w := by
  obtain ⟨gc, I, b, A, K, vf, vk, vt, t, T, H, hb, hA⟩ := h
  obtain ⟨c0, c1, c2, c3, c4, c5, c6, c7, c8⟩ := H.cells
  go_enter Try.func26, Try.ntmps26
  go_wp2
  go_ret
  exact ⟨ret_bool (by simp), rfl⟩

theorem rreboot_any {w : World} {q : Nat} {F : Nat → Prop} {m : Mod} (H : Rt w q F m) :
    Calls Try.prog 24 #[.pointer (some ⟨q, 0, none⟩)] w fun e w' => e = .returned (.bool (!m.up)) ∧ Rt w' q F { m with up := true } ∧ Chg F w w' := by
  obtain ⟨gc, I, b, A, K, vf, vk, vt, t, T, H, hb, hA⟩ := H
  obtain ⟨sz, V, W, up, ops, arm, kp⟩ := m
  obtain ⟨c0, c1, c2, c3, c4, c5, c6, c7, c8⟩ := H.cells
  have f4 := H.free 4
  have hfp := H.fp
  have HBA : Hid (b = decide (arm ≠ 0) ∧ (arm ≠ 0 → A = arm ∧ K = kp)) := ⟨hb, hA⟩
  clear hb hA
  rcases up with _ | _
  · have hc : Chg (fun k => k = q) w (w.setCell ⟨q, 4, none⟩ (.bool false)) := (Chg.refl _ w).setCell _ _ (.inl rfl)
    have s1 : Hid (Rto (w.setCell ⟨q, 4, none⟩ (.bool false)) q gc F I ⟨sz, V, W, true, ops, arm, kp⟩ b A K vf vk vt t T) :=
      H.put (up' := true) (ops' := ops) (arm' := arm) (kp' := kp) hc (by simpa using H.blk_set 4 (.bool false)) (H.kep.chg hc (fun k hk e => H.ip (e ▸ hk))) (Nat.le_refl _) H.num.2.2.2.2.2.1
    clear H
    go_enter Try.func24, Try.ntmps24
    go_wp2
    go_ret
    exact ⟨rfl, ⟨gc, I, b, A, K, vf, vk, vt, t, T, s1.out, HBA.out⟩, (Chg.refl F w).setCell _ _ (.inl hfp)⟩
  · have s1 : Hid (Rto w q gc F I ⟨sz, V, W, true, ops, arm, kp⟩ b A K vf vk vt t T) := H
    clear H
    go_enter Try.func24, Try.ntmps24
    go_wp2
    go_ret
    exact ⟨rfl, ⟨gc, I, b, A, K, vf, vk, vt, t, T, s1.out, HBA.out⟩, Chg.refl F w⟩

theorem rnew_out {w : World} (n sz : Int) (h : n < 1 ∨ 65536 < n ∨ sz < 1 ∨ 4096 < sz) :
    Calls Try.prog 11 #[.int .i64 n, .int .i64 sz] w fun e w' => e = .returned (.tuple #[.pointer none, .int .i64 1]) ∧ w' = w := by
  have hc : (n < 1) ∨ (1 ≤ n ∧ 65536 < n) ∨ (1 ≤ n ∧ n ≤ 65536 ∧ sz < 1) ∨ (1 ≤ n ∧ n ≤ 65536 ∧ 1 ≤ sz ∧ 4096 < sz) := by omega
  clear h
  rcases hc with h1 | ⟨h1, h2⟩ | ⟨h1, h2, h3⟩ | ⟨h1, h2, h3, h4⟩
  all_goals
    go_enter Try.func11, Try.ntmps11
    go_wp2
    go_ret2
    exact ⟨rfl, rfl⟩

theorem rto_new {w w1 : World} {n sz : Nat} (h1 : 1 ≤ n) (h2 : n ≤ 65536) (h3 : 1 ≤ sz) (h4 : sz ≤ 4096) (hown : w1.ownsRow w.heap.size 31 1 (.slice (some ⟨w.heap.size, 0, none⟩) n n) n (madeCells #[.slice none 0 0] n).toList) (hg : w.grownBy w1 none) :
    Rt (w1.alloc (.cells #[.int .i64 sz, .int .i64 0, .int .i64 0, .bool false, .bool false, .slice none 0 0, .slice (some ⟨w.heap.size, 0, none⟩) n n, .slice none 0 0, .slice none 0 0] 53)) w1.heap.size (fun k => w.heap.size ≤ k ∧ k < w1.heap.size + 1) (Mod.new n sz) := by
  have hr := (row_whole hown).1
  have hlt := lt_of_block hr
  refine ⟨w.heap.size, no, false, 0, [], .slice none 0 0, .slice none 0 0, .slice none 0 0, 0, [], ⟨?_, ?_, World.ownsRow_nil _ _ _ _, World.ownsRow_nil _ _ _ _, .inl ⟨rfl, rfl⟩, ?_, ?_, ?_, ?_, ?_, by omega, ?_, ?_, id, id, ⟨hg.size, by omega⟩, ⟨Nat.le_refl _, by omega⟩, fun _ h => h.elim, fun k hk => by simp; omega⟩, rfl, fun h => (h rfl).elim⟩
  · simpa [Mod.new] using heap_alloc_new w1 _
  · rw [Below.heap_alloc _ _ _ hlt, hr]
    simp [Mod.new, toList_madeCells_one]
  · intro c hc
    simp [Mod.new] at hc
    obtain ⟨_, rfl⟩ := hc
    exact ⟨by simp [Mod.new], .inl ⟨rfl, rfl⟩⟩
  · intro x hx; simp [Mod.new] at hx
  · intro x hx; simp [Mod.new] at hx
  · intro x hx; simp [Mod.new] at hx
  · simp [Mod.new]; omega
  · intro k hk; simp [Value.ownBlock] at hk
  · intro k hk; simp [Value.ownBlock] at hk

theorem rnew_in {w : World} (n sz : Nat) (h1 : 1 ≤ n) (h2 : n ≤ 65536) (h3 : 1 ≤ sz) (h4 : sz ≤ 4096) :
    Calls Try.prog 11 #[.int .i64 n, .int .i64 sz] w fun e w' => ∃ p, e = .returned (.tuple #[.pointer (some ⟨p, 0, none⟩), .int .i64 0]) ∧ Rt w' p (fun k => w.heap.size ≤ k ∧ k < w'.heap.size) (Mod.new n sz) ∧ Chg no w w' := by
  obtain ⟨i0, hi0, hz0, hz1, hz2⟩ := info_parts info32
  have a1 : (1 : Int) ≤ n := by omega
  have a2 : (n : Int) ≤ 65536 := by omega
  have a3 : (1 : Int) ≤ sz := by omega
  have a4 : (sz : Int) ≤ 4096 := by omega
  go_enter Try.func11, Try.ntmps11
  go_wp2_with (at_make; refine wpList_make_full _ rfl _ _ 49 rfl w.heap.size 31 i0 (.slice none 0 0) 1 Try.underlying49 hi0 hz0 hz1 .i64 .i64 n n n rfl rfl rfl rfl ?c1 ?c2 ?c3 ?_)
  case c1 => rw [hz2]; omega
  case c2 => unfold maxLen; omega
  case c3 => omega
  intro w1 hown hg
  go_wp2
  go_ret2
  have := rto_new h1 h2 h3 h4 hown hg
  exact ⟨_, rfl, by simpa using this, ((Chg.refl no w).grown hg (by simp)).alloc _⟩

end Go.Proofs.Yteehphmedmplkaa.st
