/- The contract of Write. -/
import Derived.Test.YteehphmedmplkaaActs
import Derived.Deep.Cut
import Derived.Deep.CutRange
namespace Go.Proofs.Yteehphmedmplkaa.st
open Go.ChangeShapes Go.WideShapes Go.ChangeAt Go.RowKit Go.Proofs.Yteehphmedmplkaa.hp Go.Proofs.Yteehphmedmplkaa.md
set_option linter.unusedVariables false

theorem write_fail {w : World} {p : Nat} {F : Nat → Prop} {m : Mod} (H : St w p F m) (hops : m.ops ≤ 100000000) (hkp : m.kp.length ≤ 100000000000) (hf : m.fails = true) (a : Int) (b : Option Addr) (l c : Nat) :
    Calls Try.prog 47 #[.pointer (some ⟨p, 0, none⟩), .int .i64 a, .slice b l c] w fun e w' => e = .returned (.int .i64 6) ∧ St w' p F m.began ∧ Chg F w w' := by
  have HB := begin_any H hops hkp
  rw [hf] at HB
  clear hf H
  go_enter Try.func47, Try.ntmps47
  go_wp2_with fail
  refine HB.mono ?_
  rintro e w1 ⟨rfl, s1, k1⟩
  go_wp2
  go_ret
  exact ⟨rfl, s1, k1⟩

theorem write_out {w : World} {p : Nat} {F : Nat → Prop} {m : Mod} (H : St w p F m) (hops : m.ops ≤ 100000000) (hkp : m.kp.length ≤ 100000000000) (hf : m.fails = false) (a : Int) (ha : ¬ (0 ≤ a ∧ a < m.V.length)) (b : Option Addr) (l c : Nat) :
    Calls Try.prog 47 #[.pointer (some ⟨p, 0, none⟩), .int .i64 a, .slice b l c] w fun e w' => e = .returned (.int .i64 1) ∧ St w' p F m.began ∧ Chg F w w' := by
  have HB := begin_any H hops hkp
  rw [hf] at HB
  have hh : decide (0 ≤ a ∧ a < m.began.V.length) = false := by rw [(began_sz m).2]; simp only [decide_eq_false_iff_not]; exact ha
  clear hf H ha
  go_enter Try.func47, Try.ntmps47
  go_wp2_with fail
  refine HB.mono ?_
  rintro e w1 ⟨rfl, s1, k1⟩
  have HA := has_any s1 a
  rw [hh] at HA
  clear hh
  go_wp2_with fail
  refine HA.mono ?_
  rintro e w2 ⟨rfl, rfl⟩
  go_wp2
  go_ret
  exact ⟨rfl, s1, k1⟩

theorem write_form {w : World} {p : Nat} {F : Nat → Prop} {m : Mod} (H : St w p F m) (hops : m.ops ≤ 100000000) (hkp : m.kp.length ≤ 100000000000) (hf : m.fails = false) (a : Int) (ha : 0 ≤ a ∧ a < m.V.length) (b : Option Addr) (l c : Nat) (hl : l ≠ m.sz) :
    Calls Try.prog 47 #[.pointer (some ⟨p, 0, none⟩), .int .i64 a, .slice b l c] w fun e w' => e = .returned (.int .i64 2) ∧ St w' p F m.began ∧ Chg F w w' := by
  have HB := begin_any H hops hkp
  rw [hf] at HB
  have hh : decide (0 ≤ a ∧ a < m.began.V.length) = true := by rw [(began_sz m).2]; simp only [decide_eq_true_iff]; exact ha
  have hl' : l ≠ m.began.sz := by rw [(began_sz m).1]; exact hl
  clear hf H ha hl
  go_enter Try.func47, Try.ntmps47
  go_wp2_with fail
  refine HB.mono ?_
  rintro e w1 ⟨rfl, s1, k1⟩
  have HA := has_any s1 a
  rw [hh] at HA
  have S1 : Hid (St w1 p F m.began) := s1
  obtain ⟨gc, I, vf, vk, s1⟩ := s1
  obtain ⟨c0, c1, c2, c3, c4, c5, c6⟩ := s1.cells
  have hln : ¬ ((l : Int) = m.began.sz) := by omega
  clear hh s1 hl'
  go_wp2_with fail
  refine HA.mono ?_
  rintro e w2 ⟨rfl, rfl⟩
  go_wp2
  go_ret
  exact ⟨rfl, S1.out, k1⟩

def Mod.put (m : Mod) (x : Wr) : Mod := { m with W := m.W ++ [x] }

theorem info65z : (Try.prog.info? 90).map (fun i => (i.zero, i.size, i.bytes)) = some (some (.agg #[.int .i64 0, .slice none 0 0, .slice none 0 0]), 3, 56) := by kernel_rfl

/-- What three steps of Write leave: the new write is in flight, its cell covers the old one. -/
theorem sto_write {w w1 w2 : World} {p gc : Nat} {F I : Nat → Prop} {m : Mod} {vf vk v vf' : Value} {zs : List Int} {a : Nat} (h : Sto w p gc F I m vf vk) (ha : a < m.V.length) (hz : zs.length = m.sz) (ho : m.W.length + 1 ≤ m.ops)
    (c1 : Chg no w w1) (hv : w1.ownsRow w.heap.size 5 1 v zs.length (zs.map (Value.int .u8)))
    (hg : w1.grownBy w2 vf.ownBlock) (hf : w2.ownsRow 0 90 3 vf' (m.W.length + 1) (rows m.V m.W m.W.length ++ [.int .i64 a, (m.now.getD a dC).1, v])) (hn : ∀ k, vf'.ownBlock = some k → vf.ownBlock = some k ∨ w1.heap.size ≤ k) :
    Sto ((w2.setCell ⟨p, 2, none⟩ vf').setCell ⟨gc, a, none⟩ v) p gc (Wid F w ((w2.setCell ⟨p, 2, none⟩ vf').setCell ⟨gc, a, none⟩ v)) (fun k => I k ∨ (w.heap.size ≤ k ∧ k < w1.heap.size)) (Mod.put m (a, v, zs)) vf' vk ∧ Chg F w ((w2.setCell ⟨p, 2, none⟩ vf').setCell ⟨gc, a, none⟩ v) := by
  have hl := h.lt
  have hpl := hl p h.fp
  have hgl := hl gc h.fgc
  have s1 := h.more c1
  have g2 : Chg (fun k => vf.ownBlock = some k) w1 w2 := (Chg.refl _ w1).grown hg (fun k hk => .inl hk)
  have g4 : Chg (fun k => vf.ownBlock = some k ∨ k = p ∨ k = gc) w1 ((w2.setCell ⟨p, 2, none⟩ vf').setCell ⟨gc, a, none⟩ v) :=
    ((g2.mono fun k hk => .inl (.inl hk)).setCell _ _ (.inl (.inr (.inl rfl)))).setCell _ _ (.inl (.inr (.inr rfl)))
  have hI : ∀ k, (I k ∨ (w.heap.size ≤ k ∧ k < w1.heap.size)) → ¬ (vf.ownBlock = some k ∨ k = p ∨ k = gc) := by
    intro k hk e
    rcases e with e | rfl | rfl
    · exact (s1.fpg k e).2.2.1 hk
    · exact s1.ip hk
    · exact s1.igc hk
  have hfp : ∀ k, vf'.ownBlock = some k → k ≠ p ∧ k ≠ gc ∧ ¬ (I k ∨ (w.heap.size ≤ k ∧ k < w1.heap.size)) ∧ (F k ∨ w1.heap.size ≤ k) := by
    intro k hk
    rcases hn k hk with e | e
    · obtain ⟨b1, b2, b3, _⟩ := s1.fpg k e
      exact ⟨b1, b2, b3, .inl (h.fpg k e).2.2.2⟩
    · have := c1.size
      exact ⟨by omega, by omega, fun e' => by rcases e' with e' | e'; have := hl k (h.fi k e'); omega; omega, .inr e⟩
  have hsz2 : w2.heap.size = ((w2.setCell ⟨p, 2, none⟩ vf').setCell ⟨gc, a, none⟩ v).heap.size := by simp
  have hs12 := g2.size
  have hs1 := c1.size
  have hb2 : w2.heap[p]? = _ := g2.heap s1.blk (fun e => (s1.fpg p e).1 rfl)
  have hr2 : w2.heap[gc]? = _ := g2.heap s1.row (fun e => (s1.fpg gc e).2.1 rfl)
  refine ⟨⟨?_, ?_, ?_, s1.kep.chg g4 hI, fun x hx => (s1.bytV x hx).chg g4 hI, ?_, ?_, ?_, h.pgc, ?_, s1.ip, s1.igc, .inl h.fp, .inl h.fgc, ?_, ?_⟩, ?_⟩
  · rw [Below.heap_setCell _ _ _ _ (by simpa using h.pgc), row_set (xs := [_, _, _, _, _, _, _]) hb2 2 vf']
    simp [Mod.put]
  · have := row_set (w := w2.setCell ⟨p, 2, none⟩ vf') (by rw [Below.heap_setCell _ _ _ _ (by simpa using fun e => h.pgc e.symm)]; exact hr2) a v
    rw [this]
    have e : Mod.now (Mod.put m (a, v, zs)) = (Mod.now m).set a (v, zs) := by
      have := redo_more m.V m.W (a, v, zs)
      simpa [Mod.now, Mod.put] using this
    rw [e, List.map_set]
  · have e : rows (Mod.put m (a, v, zs)).V (Mod.put m (a, v, zs)).W (Mod.put m (a, v, zs)).W.length = rows m.V m.W m.W.length ++ [.int .i64 a, (m.now.getD a dC).1, v] := by
      have := rows_more m.V m.W (a, v, zs)
      simpa [Mod.now, Mod.put] using this
    rw [e]
    have e2 : (Mod.put m (a, v, zs)).W.length = m.W.length + 1 := by simp [Mod.put]
    rw [e2]
    exact ownsRow_setCell_other (ownsRow_setCell_other hf (by intro e; exact (hfp p e).1 rfl) _) (by intro e; exact (hfp gc e).2.1 rfl) _
  · intro x hx
    simp only [Mod.put, List.mem_append, List.mem_singleton] at hx
    rcases hx with hx | rfl
    · exact (s1.bytW x hx).chg g4 hI
    · have : Byt (fun k => I k ∨ (w.heap.size ≤ k ∧ k < w1.heap.size)) w1 m.sz (v, zs) := ⟨hz, .inr (Lies.of_owns hv (fun k hk => .inr (hv.lt k hk)))⟩
      exact this.chg g4 hI
  · intro x hx
    simp only [Mod.put, List.mem_append, List.mem_singleton] at hx
    rcases hx with hx | rfl
    · exact h.adr x hx
    · exact ha
  · have := h.num
    refine ⟨this.1, this.2.1, this.2.2.1, this.2.2.2.1, ?_, this.2.2.2.2.2⟩
    simp [Mod.put]
    omega
  · intro k hk
    obtain ⟨b1, b2, b3, b4⟩ := hfp k hk
    refine ⟨b1, b2, b3, ?_⟩
    rcases b4 with b4 | b4
    · exact .inl b4
    · have := (hf.lt k hk).2
      exact .inr ⟨by omega, by omega⟩
  · intro k e
    rcases e with e | e
    · exact .inl (h.fi k e)
    · exact .inr ⟨e.1, by omega⟩
  · intro k e
    rcases e with e | e
    · have := hl k e
      omega
    · exact e.2
  · exact (((c1.of_no F).trans g2 (fun k hk => .inl (h.fpg k hk).2.2.2)).setCell _ _ (.inl h.fp)).setCell _ _ (.inl h.fgc)

theorem owns_base {w : World} {b b' : Nat} {e : TypeId} {size : Nat} {v : Value} {n : Nat} {xs : List Value} (h : w.ownsRow b e size v n xs) (hb : b' ≤ b) : w.ownsRow b' e size v n xs := by
  refine ⟨h.1, ?_⟩
  rcases h.2 with hh | ⟨g, cap, cur, rfl, hb, rest⟩
  · exact .inl hh
  · exact .inr ⟨g, cap, cur, rfl, by omega, rest⟩

/-- append to a row of the call's own, as one step of a region that draws; the row lies where it lay, or in new memory. -/
theorem step_append_at {P : Program} {ops : Array Oper} {o : Oper} {a : Act} {w : World} {K : Act → World → Prop} {Q : Exit → Act → World → Prop} {E : Prop} (hg : o.guard = none) (s x : Operand) (t : TypeId)
    (ho : o.op = .call { callee := .builtin .append, args := #[s, x], argTypes := #[t, t] })
    (e : TypeId) (i : TypeInfo) (z : Value) (size bytes : Nat) (ht : P.underlying t = some (.slice e)) (hi : P.info? e = some i) (hz : i.zero = some z)
    (hsize : i.size = size) (hby : i.bytes = bytes) (hzs : z.cells.size = size) (hsz : 0 < size)
    (v : Value) (n : Nat) (xs : List Value) (hs : a.eval s = v) (hown : w.ownsRow 0 e size v n xs)
    (ad : Addr) (m c : Nat) (news : List Value) (hx : a.eval x = .slice (some ad) m c) (hl : news.length = m * size) (hnews : ∀ j u, news[j]? = some u → w.cell? (ad.add j) = some u) (h1 : ∀ u ∈ news, u.oneCell' = true)
    (h63 : n + m ≤ maxLen) (hbytes : (n + m) * bytes ≤ 140737488355328)
    (h : ∀ v' w', w'.ownsRow 0 e size v' (n + m) (xs ++ news) → w.grownBy w' v.ownBlock → (∀ k, v'.ownBlock = some k → v.ownBlock = some k ∨ w.heap.size ≤ k) → K (a.put o.dst v') w') :
    if Region.wanted o (yielded ops a.tmps) = true then Oper.wp P o a w K Q else E := by
  have hw : Region.wanted o (yielded ops a.tmps) = true := by simp [Region.wanted, hg]
  rw [if_pos hw]
  have hown0 := hown
  rcases hown.2 with ⟨rfl, rfl⟩ | ⟨g, cap, cur, rfl, hb, hgg, hc, hm, hcs, htk⟩
  · obtain rfl : xs = [] := List.eq_nil_of_length_eq_zero (by simpa using hown.1)
    exact wp_append_own w s x t ho w.heap.size e i z size bytes ht hi hz hsize hby hzs hsz _ 0 [] hs (World.ownsRow_nil w _ e size) ad m c news hx hl hnews h1 h63 hbytes (Nat.le_refl _) fun v' w' h2 h3 _ => h v' w' (owns_base h2 (Nat.zero_le _)) h3 (fun k hk => .inr (h2.lt k hk).1)
  · by_cases hr : n + m ≤ cap
    · obtain ⟨w', hrun, r1, r2⟩ := run_append_fits (P := P) w 0 t o.type e i size ht hi hsize g n cap xs hown0 ad m c news hl hnews h1 hr
      unfold Oper.wp
      simp [execOp, ho, resolve, invoke, builtin, hs, hx, hrun, Result.andThen]
      exact h _ w' r1 r2 (fun k hk => .inl hk)
    · have hcell : ∀ j u, xs[j]? = some u → w.cell? ((⟨g, 0, none⟩ : Addr).add j) = some u := hown0.cells rfl
      obtain ⟨v', w', hrun, r1, r2⟩ := run_append_arg_grows (P := P) w t o.type e i z size bytes ht hi hz hsize hby hzs hsz ⟨g, 0, none⟩ n cap xs hown0.1 hcell ad m c news hl hnews (by omega) h63 hbytes
      unfold Oper.wp
      simp [execOp, ho, resolve, invoke, builtin, hs, hx, hrun, Result.andThen]
      exact h v' w' (owns_base r1 (Nat.zero_le _)) ⟨r2.os, r2.tape, r2.output, r2.size, fun k hk _ => r2.block k hk (by simp)⟩ (fun k hk => .inr (r1.lt k hk).1)

/-- Between the first and the second step of Write: the new write lies in block g. -/
structure Mid (w1 : World) (a : Nat) (B v : Value) (zs : List Int) (g : Nat) (wc : World) : Prop where
  blk : wc.heap[g]? = some (.cells #[.int .i64 a, B, v] 90 (0, 0))
  own : wc.ownsRow w1.heap.size 5 1 v zs.length (zs.map (Value.int .u8))
  chg : Chg no w1 wc
  new : w1.heap.size ≤ g

theorem mid_a {w2 w3 : World} {a : Nat} {B v : Value} {zs : List Int} (o : w3.ownsRow w2.heap.size 5 1 v zs.length (zs.map (Value.int .u8))) (k : Chg no w2 w3) : Mid w2 a B v zs w3.heap.size (w3.alloc (.cells #[.int .i64 a, B, v] 90)) :=
  ⟨heap_alloc_new _ _, o.alloc _, k.alloc _, k.size⟩

theorem mid_b {w2 w3 : World} {a : Nat} {B v : Value} {zs : List Int} (o : w3.ownsRow ((w2.alloc (.cells #[.int .i64 0, .slice none 0 0, .slice none 0 0] 90)).drew).heap.size 5 1 v zs.length (zs.map (Value.int .u8)))
    (k : Chg no (w2.alloc (.cells #[.int .i64 0, .slice none 0 0, .slice none 0 0] 90)).drew w3) :
    Mid w2 a B v zs w2.heap.size (((w3.setCell ⟨w2.heap.size, 0, none⟩ (.int .i64 a)).setCell ⟨w2.heap.size, 1, none⟩ B).setCell ⟨w2.heap.size, 2, none⟩ v) := by
  have hb := k.heap (k := w2.heap.size) (heap_alloc_new w2 _) id
  have hne : ∀ {a : Addr}, a.block = w2.heap.size → v.ownBlock ≠ some a.block := by
    intro a ha e
    have := (o.lt _ e).1
    have : ((w2.alloc (.cells #[.int .i64 0, .slice none 0 0, .slice none 0 0] 90)).drew).heap.size = w2.heap.size + 1 := by simp
    omega
  refine ⟨?_, ?_, ?_, Nat.le_refl _⟩
  · have h1 := row_set (xs := [_, _, _]) hb 0 (.int .i64 a)
    have h2 := row_set h1 1 B
    have h3 := row_set h2 2 v
    simpa using h3
  · exact owns_base (ownsRow_setCell_other (ownsRow_setCell_other (ownsRow_setCell_other o (hne rfl) _) (hne rfl) _) (hne rfl) _) (by simp)
  · have h0 : Chg no w2 w3 := ((Chg.refl no w2).alloc _).drew.then k
    exact ((h0.setCell _ _ (.inr (Nat.le_refl _))).setCell _ _ (.inr (Nat.le_refl _))).setCell _ _ (.inr (Nat.le_refl _))

theorem write_end {w w2 X W' : World} {p gc : Nat} {F I : Nat → Prop} {M : Mod} {vf vk : Value} (k1 : Chg F w w2) (S : Sto X p gc (Wid F w2 X) I M vf vk) (c : Chg F w2 X) (hs : Chg no X W') (hz : W'.heap.size = X.heap.size) :
    St W' p (Wid F w W') M ∧ Chg F w W' := by
  refine ⟨⟨gc, I, vf, vk, (S.chg hs (fun _ _ h => h)).wide ?_ ?_⟩, (k1.then c).then (hs.of_no F)⟩
  · intro k hk
    have := k1.size
    rcases hk with hk | hk
    · exact .inl hk
    · exact .inr ⟨by omega, by omega⟩
  · intro k hk
    rcases hk with hk | hk
    · have := S.lt k (.inl hk)
      omega
    · exact hk.2

set_option maxHeartbeats 4000000 in
theorem write_ok {w : World} {p : Nat} {F J : Nat → Prop} {m : Mod} (H : St w p F m) (hops : m.ops ≤ 100000000) (hkp : m.kp.length ≤ 100000000000) (hf : m.fails = false) (a : Nat) (ha : a < m.V.length) (v : Value) (zs : List Int) (hz : zs.length = m.sz) (hv : Lies J w v (zs.map (Value.int .u8))) (hJ : ∀ k, J k → ¬ F k ∧ k < w.heap.size) :
    Calls Try.prog 47 #[.pointer (some ⟨p, 0, none⟩), .int .i64 a, v] w fun e w' => ∃ v', e = .returned (.int .i64 0) ∧ St w' p (Wid F w w') (Mod.put m.began (a, v', zs)) ∧ Chg F w w' := by
  have HB := begin_any H hops hkp
  rw [hf] at HB
  have hh : decide (0 ≤ (a : Int) ∧ (a : Int) < m.began.V.length) = true := by rw [(began_sz m).2]; simp; omega
  have hlt : a < m.began.V.length := by rw [(began_sz m).2]; exact ha
  have hsz : zs.length = m.began.sz := by rw [(began_sz m).1]; exact hz
  have hW : m.W.length ≤ m.ops := by obtain ⟨gc, I, vf, vk, h⟩ := H; exact h.num.2.2.2.2.1
  have hWo : m.began.W.length + 1 ≤ m.began.ops := by rw [(began_ok m hf).1]; simpa using hW
  have hob := began_ops m
  obtain ⟨M, hM⟩ : ∃ M, m.began = M := ⟨_, rfl⟩
  rw [hM] at HB hh hlt hsz hWo hob ⊢
  obtain ⟨av, cv, hvv, _⟩ := hv.slice
  simp only [List.length_map, hsz] at hvv
  subst hvv
  clear hf H ha hz hM
  go_enter Try.func47, Try.ntmps47
  go_wp2_with fail
  refine HB.mono ?_
  rintro e w1 ⟨rfl, s1, k1⟩
  have HA := has_any s1 a
  rw [hh] at HA
  have hv1 := hv.chg k1 (fun k hk => (hJ k hk).1)
  have hJ1 : ∀ k, J k → k < w1.heap.size := fun k hk => Nat.lt_of_lt_of_le (hJ k hk).2 k1.size
  clear hh hv HB
  obtain ⟨gc, I, vf, vk, s1⟩ := s1
  obtain ⟨c0, c1, c2, c3, c4, c5, c6⟩ := s1.cells
  obtain ⟨d1, d2⟩ := s1.now_cell a hlt
  obtain ⟨bx, bl, bc, hBs⟩ := (s1.now_byt a hlt).slice
  have hnum := s1.num
  obtain ⟨af, cf, hvf⟩ := owns_shape s1.fly
  subst hvf
  have hf2 := s1.free 2
  have hpl := s1.lt p s1.fp
  have hgl := s1.lt gc s1.fgc
  have HS : Hid (Sto w1 p gc F I M (.slice af M.W.length cf) vk) := s1
  have HBs : Hid ((M.now.getD a dC).1 = .slice bx bl bc) := hBs
  rw [hBs] at d1
  have haI : (a : Int) < M.V.length := by omega
  have hVb : M.V.length ≤ 65536 := hnum.2.2.2.1
  have hszb : M.sz ≤ 4096 := hnum.2.1
  have HSZ : Hid (zs.length = M.sz) := hsz
  have hzb : zs.length ≤ 100000 := by omega
  clear s1 hBs hsz
  go_wp2_with fail
  refine HA.mono ?_
  rintro e w2 ⟨rfl, rfl⟩
  have HL : Hid (∀ w', Chg no w2 w' → Lies J w' (.slice av M.sz cv) (zs.map (Value.int .u8))) := fun w' hc => hv1.chg hc (fun _ _ h => h)
  have HJ : Hid (∀ w', Chg no w2 w' → ∀ k, J k → k < w'.heap.size) := fun w' hc k hk => Nat.lt_of_lt_of_le (hJ1 k hk) hc.size
  have HE : Hid (∀ w', Chg no w2 w' → w'.cell? ⟨p, 1, none⟩ = some (.slice (some ⟨gc, 0, none⟩) M.V.length M.V.length) ∧ w'.cell? ⟨gc, a, none⟩ = some (.slice bx bl bc)) := fun w' hc => ⟨hc.cell c1 id, hc.cell d1 id⟩
  have HZ : Hid (∀ w', Chg no (w2.alloc (.cells #[.int .i64 0, .slice none 0 0, .slice none 0 0] 90)).drew w' → w'.cell? ⟨w2.heap.size, 0, none⟩ = some (.int .i64 0) ∧ w'.cell? ⟨w2.heap.size, 1, none⟩ = some (.slice none 0 0) ∧ w'.cell? ⟨w2.heap.size, 2, none⟩ = some (.slice none 0 0) ∧
      w'.frozen? ⟨w2.heap.size, 0, none⟩ = false ∧ w'.frozen? ⟨w2.heap.size, 1, none⟩ = false ∧ w'.frozen? ⟨w2.heap.size, 2, none⟩ = false) := by
    intro w' hc
    have hb := hc.heap (k := w2.heap.size) (heap_alloc_new w2 _) id
    simp [World.cell?, World.frozen?, hb]
  go_upto_region 8 with fail
  go_cut [8] from 25 to 35 (fun x wc => ∃ g v', x = .pointer (some ⟨g, 0, none⟩) ∧ Mid w2 a (.slice bx bl bc) v' zs g wc)
  case first =>
    go_region_with (go_at_call 59; refine (clone_any (.slice av M.sz cv) zs J _ (HL.out _ (by first | exact (Chg.refl no _).drew | exact ((Chg.refl no _).alloc _).drew)) hzb (HJ.out _ (by first | exact (Chg.refl no _).drew | exact ((Chg.refl no _).alloc _).drew))).mono ?_; rintro e w3 ⟨v3, rfl, o3, k3⟩; obtain ⟨a3, c3, rfl⟩ := owns_shape o3; have k4 : Chg no w2 w3 := (by first | exact (Chg.refl no _).drew.then k3 | exact ((Chg.refl no _).alloc _).drew.then k3); have e1 := (HE.out _ k4).1; have e2 := (HE.out _ k4).2; have hp3 : p < w3.heap.size := (Nat.lt_of_lt_of_le hpl k4.size); have hg3 : gc < w3.heap.size := (Nat.lt_of_lt_of_le hgl k4.size); first | (rename Chg no (World.drew (World.alloc w2 _)) _ => k5; obtain ⟨z0, z1, z2, z3, z4, z5⟩ := HZ.out _ k5) | skip)
    all_goals (go_wp2; go_meet; case rel => first | exact ⟨_, _, rfl, mid_a o3 k4⟩ | exact ⟨_, _, rfl, mid_b o3 k5⟩)
  case rest =>
    obtain ⟨g, v', rfl, mid⟩ := hcut
    obtain ⟨i0, hi0, hz0, hz1, hz2⟩ := info_parts info65z
    obtain ⟨va, vc, hvs⟩ := owns_shape mid.own
    subst hvs
    have b0 := (row_cell (xs := [_, _, _]) mid.blk 0 _ rfl).1
    have b1 := (row_cell (xs := [_, _, _]) mid.blk 1 _ rfl).1
    have b2 := (row_cell (xs := [_, _, _]) mid.blk 2 _ rfl).1
    have e2 := mid.chg.cell c2 id
    have hgp : ¬ g = p := by have := mid.new; omega
    have hggc : ¬ g = gc := by have := mid.new; omega
    have hpg : ¬ p = g := by have := mid.new; omega
    have hpgc : ¬ p = gc := HS.out.pgc
    have hgcp : ¬ gc = p := fun e => HS.out.pgc e.symm
    have KW : Chg no w2 ((wc.alloc (.cells #[.int .i64 a, .slice bx bl bc, .slice va zs.length vc] 90)).drew) := (mid.chg.alloc _).drew
    have HO : Hid (((wc.alloc (.cells #[.int .i64 a, .slice bx bl bc, .slice va zs.length vc] 90)).drew).ownsRow 0 90 3 (.slice af M.W.length cf) M.W.length (rows M.V M.W M.W.length)) := KW.owns HS.out.fly (fun _ _ h => h)
    have HN : Hid (∀ (j : Nat) (u : Value), ([.int .i64 a, .slice bx bl bc, .slice va zs.length vc] : List Value)[j]? = some u → ((wc.alloc (.cells #[.int .i64 a, .slice bx bl bc, .slice va zs.length vc] 90)).drew).cell? ((⟨wc.heap.size, 0, none⟩ : Addr).add j) = some u) := by
      intro j u hu
      have hb : ((wc.alloc (.cells #[.int .i64 a, .slice bx bl bc, .slice va zs.length vc] 90)).drew).heap[wc.heap.size]? = some (.cells #[.int .i64 a, .slice bx bl bc, .slice va zs.length vc] 90 (0, 0)) := heap_alloc_new _ _
      rw [Addr.add_lit, Nat.zero_add]
      exact (row_cell (xs := [_, _, _]) hb j u hu).1
    have H1 : ∀ u ∈ ([.int .i64 a, .slice bx bl bc, .slice va zs.length vc] : List Value), u.oneCell' = true := by
      intro u hu
      simp at hu
      rcases hu with rfl | rfl | rfl <;> rfl
    have HG : Hid (∀ w5, ((wc.alloc (.cells #[.int .i64 a, .slice bx bl bc, .slice va zs.length vc] 90)).drew).grownBy w5 (Value.slice af M.W.length cf).ownBlock → w5.cell? ⟨p, 1, none⟩ = some (.slice (some ⟨gc, 0, none⟩) M.V.length M.V.length) ∧ w5.cell? ⟨p, 2, none⟩ = some (.slice af M.W.length cf) ∧ w5.frozen? ⟨p, 2, none⟩ = false ∧
        w5.cell? ⟨gc, a, none⟩ = some (.slice bx bl bc) ∧ w5.frozen? ⟨gc, a, none⟩ = false ∧ w5.cell? ⟨g, 2, none⟩ = some (.slice va zs.length vc)) := by
      intro w5 g5
      have hC : Chg (fun k => (Value.slice af M.W.length cf).ownBlock = some k) w2 w5 := (KW.of_no _).grown g5 (fun k hk => .inl hk)
      have hC' : Chg (fun k => (Value.slice af M.W.length cf).ownBlock = some k) wc w5 := (((Chg.refl no wc).alloc _).drew.of_no _).grown g5 (fun k hk => .inl hk)
      have n1 : ¬ (Value.slice af M.W.length cf).ownBlock = some p := fun e => (HS.out.fpg p e).1 rfl
      have n2 : ¬ (Value.slice af M.W.length cf).ownBlock = some gc := fun e => (HS.out.fpg gc e).2.1 rfl
      have n3 : ¬ (Value.slice af M.W.length cf).ownBlock = some g := fun e => by have := HS.out.lt g (HS.out.fpg g e).2.2.2; have := mid.new; omega
      exact ⟨hC.cell c1 n1, hC.cell c2 n1, (World.frozen?_of_block (hC.block p hpl n1)).trans hf2, hC.cell d1 n2, (World.frozen?_of_block (hC.block gc hgl n2)).trans d2, hC'.cell b2 n3⟩
    have hpw : p < wc.heap.size := Nat.lt_of_lt_of_le hpl mid.chg.size
    have hgcw : gc < wc.heap.size := Nat.lt_of_lt_of_le hgl mid.chg.size
    have hgw : g < wc.heap.size := lt_of_block mid.blk
    have hWb : M.W.length ≤ 100000001 := by omega
    go_upto_region 9 with fail
    go_region_law (refine step_append_at rfl (.tmp 40) (.tmp 42) 81 rfl 90 i0 (.agg #[.int .i64 0, .slice none 0 0, .slice none 0 0]) 3 56 Try.underlying81 hi0 hz0 hz1 hz2 rfl (by decide) (.slice af M.W.length cf) M.W.length (rows M.V M.W M.W.length) (by simp [Act.eval]) HO.out ⟨wc.heap.size, 0, none⟩ 1 1 [.int .i64 a, .slice bx bl bc, .slice va zs.length vc] (by simp [Act.eval]) rfl HN.out H1 (by unfold maxLen; omega) (by omega) ?_; intro vf5 w5 o5 g5 n5; obtain ⟨a5, c5, rfl⟩ := owns_shape o5; obtain ⟨q1, q2, q3, q4, q5, q6⟩ := HG.out w5 g5)
    all_goals
      have SW := sto_write HS.out hlt HSZ.out hWo KW (mid.own.alloc _) g5 (by rw [HBs.out]; exact o5) n5
      have SC := SW.2
      have S5 : Hid (Sto _ _ _ _ _ _ _ _) := SW.1
      have S6 : Hid (Chg F w2 ((w5.setCell ⟨p, 2, none⟩ (.slice a5 (M.W.length + 1) c5)).setCell ⟨gc, a, none⟩ (.slice va zs.length vc))) := SW.2
      clear SW SC
      go_wp2_with fail
      go_region
    all_goals go_wp2
    all_goals go_ret
    all_goals exact ⟨_, rfl, write_end k1 S5.out S6.out (Chg.refl no _).drew rfl⟩

end Go.Proofs.Yteehphmedmplkaa.st
