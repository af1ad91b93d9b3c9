/- Contracts of the document's store: Arm, Sync, and what is recorded. -/
import Derived.Test.YteehphmedmplkaaRtC
namespace Go.Proofs.Yteehphmedmplkaa.rt
open Go.ChangeShapes Go.WideShapes Go.ChangeAt Go.RowKit Go.Proofs.Yteehphmedmplkaa.hp Go.Proofs.Yteehphmedmplkaa.md Go.Proofs.Yteehphmedmplkaa.st
set_option linter.unusedVariables false

theorem info63 : (Try.prog.info? 64).map (fun i => (i.zero, i.size, i.bytes)) = some (some (.agg #[.int .i64 0, .int .i64 0, .slice none 0 0]), 3, 40) := by kernel_rfl
theorem info67 : (Try.prog.info? 79).map (fun i => (i.zero, i.size, i.bytes)) = some (some (.agg #[.int .i64 0, .slice none 0 0]), 2, 32) := by kernel_rfl

section
variable {w w' w1 w2 : World} {q gc : Nat} {F G I : Nat → Prop} {m : Mod} {b : Bool} {A : Int} {K : List Bool} {vf vk vt vt' vf' : Value} {t : Nat} {T : List Rec}

/-- New memory joins the blocks that hold bytes. -/
theorem Rto.more (h : Rto w q gc F I m b A K vf vk vt t T) (c : Chg no w w') : Rto w' q gc (Wid F w w') (fun k => I k ∨ (w.heap.size ≤ k ∧ k < w'.heap.size)) m b A K vf vk vt t T := by
  have h' := h.chg c (fun _ _ h => h)
  have hl := h.lt
  refine ⟨h'.blk, h'.row, h'.fly, h'.trc, fun x hx => (h'.bytT x hx).mono (fun k hk => .inl hk), h'.kep.mono (fun k hk => .inl hk), fun x hx => (h'.bytV x hx).mono (fun k hk => .inl hk), fun x hx => (h'.bytW x hx).mono (fun k hk => .inl hk), fun x hx => (h'.bytL x hx).mono (fun k hk => .inl hk), h.adr, h.num, h.pgc, ?_, ?_, ?_, ?_, .inl h.fp, .inl h.fgc, ?_, ?_⟩
  · intro k hk
    obtain ⟨a1, a2, a3, a4⟩ := h.fpg k hk
    have := hl k a4
    exact ⟨a1, a2, fun e => by rcases e with e | e; exact a3 e; omega, .inl a4⟩
  · intro k hk
    obtain ⟨a1, a2, a3, a4, a5⟩ := h.tpg k hk
    have := hl k a4
    exact ⟨a1, a2, fun e => by rcases e with e | e; exact a3 e; omega, .inl a4, a5⟩
  · intro e
    have := hl q h.fp
    rcases e with e | e
    · exact h.ip e
    · omega
  · intro e
    have := hl gc h.fgc
    rcases e with e | e
    · exact h.igc e
    · omega
  · intro k e
    rcases e with e | e
    · exact .inl (h.fi k e)
    · exact .inr e
  · intro k e
    rcases e with e | e
    · exact Nat.lt_of_lt_of_le (hl k e) c.size
    · exact e.2

/-- One more is recorded: v its bytes, in new memory. -/
theorem Rto.record (h : Rto w q gc F I m b A K vf vk vt t T) (c1 : Chg no w w1) (hg : w1.grownBy w2 vt.ownBlock) {k a : Int} {v : Value} {zs : List Int} (hv : Lies (fun k => w.heap.size ≤ k ∧ k < w1.heap.size) w1 v (zs.map (Value.int .u8))) (hf : w2.ownsRow 0 64 3 vt' (t + 1) (recs T ++ [.int .i64 k, .int .i64 a, v])) (hn : ∀ k, vt'.ownBlock = some k → vt.ownBlock = some k ∨ w1.heap.size ≤ k) (ho : t + 1 ≤ m.ops) :
    Rto (w2.setCell ⟨q, 8, none⟩ vt') q gc (Wid F w (w2.setCell ⟨q, 8, none⟩ vt')) (fun k => I k ∨ (w.heap.size ≤ k ∧ k < w1.heap.size)) m b A K vf vk vt' (t + 1) (T ++ [⟨k, a, v, zs⟩]) ∧ Chg F w (w2.setCell ⟨q, 8, none⟩ vt') := by
  have hl := h.lt
  have hql := hl q h.fp
  have hgl := hl gc h.fgc
  have s1 := h.more c1
  have hs1 := c1.size
  have g2 : Chg (fun k => vt.ownBlock = some k) w1 w2 := (Chg.refl _ w1).grown hg (fun k hk => .inl hk)
  have hs2 := g2.size
  have g3 : Chg (fun k => vt.ownBlock = some k ∨ k = q) w1 (w2.setCell ⟨q, 8, none⟩ vt') := (g2.mono fun k hk => .inl (.inl hk)).setCell _ _ (.inl (.inr rfl))
  have hz : (w2.setCell ⟨q, 8, none⟩ vt').heap.size = w2.heap.size := by simp
  have hI : ∀ k, (I k ∨ (w.heap.size ≤ k ∧ k < w1.heap.size)) → ¬ (vt.ownBlock = some k ∨ k = q) := by
    intro k hk e
    rcases e with e | rfl
    · exact (s1.tpg k e).2.2.1 hk
    · exact s1.ip hk
  have hfree : ∀ k, vt'.ownBlock = some k → k ≠ q ∧ k ≠ gc ∧ ¬ (I k ∨ (w.heap.size ≤ k ∧ k < w1.heap.size)) ∧ (F k ∨ w1.heap.size ≤ k) ∧ vf.ownBlock ≠ some k := by
    intro k hk
    rcases hn k hk with e | e
    · obtain ⟨b1, b2, b3, _, b5⟩ := s1.tpg k e
      exact ⟨b1, b2, b3, .inl (h.tpg k e).2.2.2.1, b5⟩
    · exact ⟨by omega, by omega, fun e' => by rcases e' with e' | e'; have := hl k (h.fi k e'); omega; omega, .inr e, fun e' => by have := hl k (h.fpg k e').2.2.2; omega⟩
  have nn := h.num
  refine ⟨⟨?_, g3.heap s1.row (fun e => by rcases e with e | e; exact (h.tpg gc e).2.1 rfl; exact h.pgc e.symm), g3.owns s1.fly (fun k hk e => by rcases e with e | e; exact (h.tpg k e).2.2.2.2 hk; exact (h.fpg k hk).1 e), ?_, ?_, s1.kep.chg g3 hI, fun x hx => (s1.bytV x hx).chg g3 hI, fun x hx => (s1.bytW x hx).chg g3 hI, fun x hx => (s1.bytL x hx).chg g3 hI, h.adr,
    ⟨nn.1, nn.2.1, nn.2.2.1, nn.2.2.2.1, nn.2.2.2.2.1, nn.2.2.2.2.2.1, ho⟩, h.pgc, fun k hk => ⟨(s1.fpg k hk).1, (s1.fpg k hk).2.1, (s1.fpg k hk).2.2.1, .inl (h.fpg k hk).2.2.2⟩, ?_, s1.ip, s1.igc, .inl h.fp, .inl h.fgc, ?_, ?_⟩, ?_⟩
  · have hb2 : w2.heap[q]? = _ := g2.heap s1.blk (fun e => (h.tpg q e).1 rfl)
    rw [row_set (xs := [_, _, _, _, _, _, _, _, _]) hb2 8 vt']
    simp
  · rw [recs_append]
    exact ownsRow_setCell_other hf (by intro e; exact (hfree q e).1 rfl) _
  · intro x hx
    simp only [List.mem_append, List.mem_singleton] at hx
    rcases hx with hx | rfl
    · exact (s1.bytT x hx).chg g3 hI
    · exact (hv.mono (fun k hk => .inr hk)).chg g3 hI
  · intro k hk
    obtain ⟨b1, b2, b3, b4, b5⟩ := hfree k hk
    refine ⟨b1, b2, b3, ?_, b5⟩
    rcases b4 with b4 | b4
    · exact .inl b4
    · have := (hf.lt k hk).2
      exact .inr ⟨by omega, by omega⟩
  · intro k e
    rcases e with e | e
    · exact .inl (h.fi k e)
    · exact .inr ⟨e.1, by omega⟩
  · intro k e
    rcases e with e | e
    · have := hl k e
      omega
    · exact e.2
  · exact ((c1.of_no F).trans g2 (fun k hk => .inl (h.tpg k hk).2.2.2.1)).setCell _ _ (.inl h.fp)

/-- One more write is in flight. -/
theorem Rto.flown (h : Rto w q gc F I m b A K vf vk vt t T) {a : Nat} {v : Value} {zs : List Int} (ha : a < m.V.length) (hz : zs.length = m.sz) (ho : m.W.length + 1 ≤ m.ops) (c1 : Chg no w w1) (hv : w1.ownsRow w.heap.size 5 1 v zs.length (zs.map (Value.int .u8))) (hg : w1.grownBy w2 vf.ownBlock)
    (hf : w2.ownsRow 0 79 2 vf' (m.W.length + 1) (pairs m.W ++ [.int .i64 a, v])) (hn : ∀ k, vf'.ownBlock = some k → vf.ownBlock = some k ∨ w1.heap.size ≤ k) :
    Rto (w2.setCell ⟨q, 7, none⟩ vf') q gc (Wid F w (w2.setCell ⟨q, 7, none⟩ vf')) (fun k => I k ∨ (w.heap.size ≤ k ∧ k < w1.heap.size)) (Mod.put m (a, v, zs)) b A K vf' vk vt t T ∧ Chg F w (w2.setCell ⟨q, 7, none⟩ vf') := by
  have hl := h.lt
  have hql := hl q h.fp
  have hgl := hl gc h.fgc
  have s1 := h.more c1
  have hs1 := c1.size
  have g2 : Chg (fun k => vf.ownBlock = some k) w1 w2 := (Chg.refl _ w1).grown hg (fun k hk => .inl hk)
  have hs2 := g2.size
  have g3 : Chg (fun k => vf.ownBlock = some k ∨ k = q) w1 (w2.setCell ⟨q, 7, none⟩ vf') := (g2.mono fun k hk => .inl (.inl hk)).setCell _ _ (.inl (.inr rfl))
  have hz2 : (w2.setCell ⟨q, 7, none⟩ vf').heap.size = w2.heap.size := by simp
  have hI : ∀ k, (I k ∨ (w.heap.size ≤ k ∧ k < w1.heap.size)) → ¬ (vf.ownBlock = some k ∨ k = q) := by
    intro k hk e
    rcases e with e | rfl
    · exact (s1.fpg k e).2.2.1 hk
    · exact s1.ip hk
  have hfree : ∀ k, vf'.ownBlock = some k → k ≠ q ∧ k ≠ gc ∧ ¬ (I k ∨ (w.heap.size ≤ k ∧ k < w1.heap.size)) ∧ (F k ∨ w1.heap.size ≤ k) ∧ vt.ownBlock ≠ some k := by
    intro k hk
    rcases hn k hk with e | e
    · obtain ⟨b1, b2, b3, _⟩ := s1.fpg k e
      exact ⟨b1, b2, b3, .inl (h.fpg k e).2.2.2, fun e' => (h.tpg k e').2.2.2.2 e⟩
    · exact ⟨by omega, by omega, fun e' => by rcases e' with e' | e'; have := hl k (h.fi k e'); omega; omega, .inr e, fun e' => by have := hl k (h.tpg k e').2.2.2.1; omega⟩
  have nn := h.num
  have hLv : Lies (fun k => I k ∨ (w.heap.size ≤ k ∧ k < w1.heap.size)) w1 v (zs.map (Value.int .u8)) := Lies.of_owns hv (fun k hk => .inr (hv.lt k hk))
  refine ⟨⟨?_, g3.heap s1.row (fun e => by rcases e with e | e; exact (h.fpg gc e).2.1 rfl; exact h.pgc e.symm), ?_, g3.owns s1.trc (fun k hk e => by rcases e with e | e; exact (h.tpg k hk).2.2.2.2 e; exact (h.tpg k hk).1 e), (fun x hx => (s1.bytT x hx).chg g3 hI), s1.kep.chg g3 hI, fun x hx => (s1.bytV x hx).chg g3 hI, ?_, ?_, ?_, ?_, h.pgc, ?_, ?_, s1.ip, s1.igc, .inl h.fp, .inl h.fgc, ?_, ?_⟩, ?_⟩
  · have hb2 : w2.heap[q]? = _ := g2.heap s1.blk (fun e => (h.fpg q e).1 rfl)
    rw [row_set (xs := [_, _, _, _, _, _, _, _, _]) hb2 7 vf']
    simp [Mod.put]
  · have e1 : pairs (Mod.put m (a, v, zs)).W = pairs m.W ++ [.int .i64 a, v] := pairs_append m.W (a, v, zs)
    have e2 : (Mod.put m (a, v, zs)).W.length = m.W.length + 1 := by simp [Mod.put]
    rw [e1, e2]
    exact ownsRow_setCell_other hf (by intro e; exact (hfree q e).1 rfl) _
  · intro x hx
    simp only [Mod.put, List.mem_append, List.mem_singleton] at hx
    rcases hx with hx | rfl
    · exact (s1.bytW x hx).chg g3 hI
    · exact Byt.chg (⟨hz, .inr hLv⟩ : Byt _ w1 m.sz (v, zs)) g3 hI
  · intro x hx
    simp only [Mod.put, List.mem_append, List.mem_singleton] at hx
    rcases hx with hx | rfl
    · exact (s1.bytL x hx).chg g3 hI
    · exact hLv.chg g3 hI
  · intro x hx
    simp only [Mod.put, List.mem_append, List.mem_singleton] at hx
    rcases hx with hx | rfl
    · exact h.adr x hx
    · exact ha
  · refine ⟨nn.1, nn.2.1, nn.2.2.1, nn.2.2.2.1, ?_, nn.2.2.2.2.2.1, nn.2.2.2.2.2.2⟩
    simp [Mod.put]
    omega
  · intro k hk
    obtain ⟨b1, b2, b3, b4, _⟩ := hfree k hk
    refine ⟨b1, b2, b3, ?_⟩
    rcases b4 with b4 | b4
    · exact .inl b4
    · have := (hf.lt k hk).2
      exact .inr ⟨by omega, by omega⟩
  · intro k hk
    obtain ⟨b1, b2, b3, b4, b5⟩ := s1.tpg k hk
    refine ⟨b1, b2, b3, .inl (h.tpg k hk).2.2.2.1, fun e => (hfree k e).2.2.2.2 hk⟩
  · intro k e
    rcases e with e | e
    · exact .inl (h.fi k e)
    · exact .inr ⟨e.1, by omega⟩
  · intro k e
    rcases e with e | e
    · have := hl k e
      omega
    · exact e.2
  · exact ((c1.of_no F).trans g2 (fun k hk => .inl (h.fpg k hk).2.2.2)).setCell _ _ (.inl h.fp)

theorem rto_sync (h : Rto w q gc F I m b A K vf vk vt t T) (c : Chg (fun k => k = gc) w w') (hr : w'.heap[gc]? = some (.cells ((redo m.V m.W all m.W.length).map (·.1)).toArray 31 (0, 0))) :
    Rto (w'.setCell ⟨q, 7, none⟩ (.slice none 0 0)) q gc F I m.sync b A K (.slice none 0 0) vk vt t T := by
  have hl := redo_length m.V m.W all m.W.length
  have c2 : Chg (fun k => k = gc ∨ k = q) w (w'.setCell ⟨q, 7, none⟩ (.slice none 0 0)) := (c.mono fun k hk => .inl (.inl hk)).setCell _ _ (.inl (.inr rfl))
  have hI : ∀ k, I k → ¬ (k = gc ∨ k = q) := fun k hk e => by rcases e with rfl | rfl; exact h.igc hk; exact h.ip hk
  have hn := h.num
  refine ⟨?_, ?_, World.ownsRow_nil _ _ _ _, c2.owns h.trc (fun k hk e => by obtain ⟨b1, b2, _⟩ := h.tpg k hk; rcases e with e | e; exact b2 e; exact b1 e), (fun x hx => (h.bytT x hx).chg c2 hI), h.kep.chg c2 hI, ?_, by intro x hx; simp [Mod.sync] at hx, by intro x hx; simp [Mod.sync] at hx, by intro x hx; simp [Mod.sync] at hx, ?_, h.pgc, by intro k hk; simp [Value.ownBlock] at hk,
    fun k hk => by obtain ⟨b1, b2, b3, b4, _⟩ := h.tpg k hk; exact ⟨b1, b2, b3, b4, by simp [Value.ownBlock]⟩, h.ip, h.igc, h.fp, h.fgc, h.fi, fun k hk => Nat.lt_of_lt_of_le (h.lt k hk) c2.size⟩
  · have hb := c.heap h.blk h.pgc
    rw [row_set (xs := [_, _, _, _, _, _, _, _, _]) hb 7 (.slice none 0 0)]
    simp [Mod.sync, Mod.now, hl]
  · have hne : ¬ gc = q := fun e => h.pgc e.symm
    rw [Below.heap_setCell _ _ _ _ (by simpa using hne), hr]
    simp [Mod.sync, Mod.now]
  · intro x hx
    rcases redo_mem _ _ _ _ (Nat.le_refl _) _ hx with hc | ⟨y, hy, rfl⟩
    · exact (h.bytV _ hc).chg c2 hI
    · exact (h.bytW _ hy).chg c2 hI
  · simp [Mod.sync, Mod.now, hl]
    omega
end

/-- What turns in few steps: the store in its blocks and new ones. -/
theorem rt_end {w w2 X W' : World} {q : Nat} {F : Nat → Prop} {M : Mod} {T : List Rec} (k1 : Chg F w w2) (S : Rt X q (Wid F w2 X) M T) (c : Chg F w2 X) (hs : Chg no X W') (hz : W'.heap.size = X.heap.size) :
    Rt W' q (Wid F w W') M T ∧ Chg F w W' := by
  refine ⟨(S.same hs).wide ?_ ?_, (k1.then c).then (hs.of_no F)⟩
  · intro k hk
    have := k1.size
    rcases hk with hk | hk
    · exact .inl hk
    · exact .inr ⟨by omega, by omega⟩
  · intro k hk
    rcases hk with hk | hk
    · have := S.lt k (.inl hk)
      omega
    · exact hk.2

theorem rarm_bad {w : World} {q : Nat} (a : Int) (ha : a < 1) (v : Value) :
    Calls Try.prog 20 #[.pointer (some ⟨q, 0, none⟩), .int .i64 a, v] w fun e w' => e = .returned (.bool false) ∧ w' = w := by
  go_enter Try.func20, Try.ntmps20
  go_wp2
  go_ret
  exact ⟨rfl, rfl⟩

theorem rarm_end {w w1 : World} {q gc : Nat} {F I : Nat → Prop} {m : Mod} {b : Bool} {A : Int} {K keep : List Bool} {vf vk vt v : Value} {t a : Nat} {T : List Rec} (H : Rto w q gc F I m b A K vf vk vt t T) (ha : 1 ≤ a) (ha2 : a ≤ 9223372036854775807) (o1 : w1.ownsRow w.heap.size 4 1 v keep.length (keep.map Value.bool)) (k1 : Chg no w w1) :
    Rt (((w1.setCell ⟨q, 1, none⟩ (.int .i64 a)).setCell ⟨q, 3, none⟩ (.bool true)).setCell ⟨q, 5, none⟩ v) q (Wid F w (((w1.setCell ⟨q, 1, none⟩ (.int .i64 a)).setCell ⟨q, 3, none⟩ (.bool true)).setCell ⟨q, 5, none⟩ v)) { m with arm := a, kp := keep } T ∧
    Chg F w (((w1.setCell ⟨q, 1, none⟩ (.int .i64 a)).setCell ⟨q, 3, none⟩ (.bool true)).setCell ⟨q, 5, none⟩ v) := by
  have s1 := H.more k1
  have L1 : Lies (fun k => I k ∨ (w.heap.size ≤ k ∧ k < w1.heap.size)) w1 v (keep.map Value.bool) := Lies.of_owns o1 (fun k hk => .inr (o1.lt k hk))
  have hc : Chg (fun k => k = q) w1 (((w1.setCell ⟨q, 1, none⟩ (.int .i64 a)).setCell ⟨q, 3, none⟩ (.bool true)).setCell ⟨q, 5, none⟩ v) := (((Chg.refl (fun k => k = q) w1).setCell _ _ (.inl rfl)).setCell _ _ (.inl rfl)).setCell _ _ (.inl rfl)
  have hfp := H.fp
  refine ⟨⟨gc, (fun k => I k ∨ (w.heap.size ≤ k ∧ k < w1.heap.size)), true, a, keep, vf, v, vt, t, ?_, by simp; omega, fun _ => ⟨rfl, rfl⟩⟩, (((k1.of_no F).setCell _ _ (.inl hfp)).setCell _ _ (.inl hfp)).setCell _ _ (.inl hfp)⟩
  rw [wid_eq (b := w1) (by simp)]
  exact s1.put (up' := m.up) (ops' := m.ops) (arm' := a) (kp' := keep) (b' := true) (A' := a) (K' := keep) (vk' := v) hc (by
    have e1 := s1.blk_set 1 (.int .i64 a)
    have e2 := row_set e1 3 (.bool true)
    have e3 := row_set e2 5 v
    simpa using e3) (L1.chg hc (fun k hk e => s1.ip (e ▸ hk))) (Nat.le_refl _) ha2

theorem rarm_ok {w : World} {q : Nat} {F J : Nat → Prop} {m : Mod} {T : List Rec} (H : Rt w q F m T) (a : Nat) (ha : 1 ≤ a) (ha2 : a ≤ 9223372036854775807) (v : Value) (keep : List Bool) (hk : Lies J w v (keep.map Value.bool)) (hkl : keep.length ≤ 100000000000) :
    Calls Try.prog 20 #[.pointer (some ⟨q, 0, none⟩), .int .i64 a, v] w fun e w' => e = .returned (.bool true) ∧ Rt w' q (Wid F w w') { m with arm := a, kp := keep } T ∧ Chg F w w' := by
  obtain ⟨gc, I, b, A, K, vf, vk, vt, t, H, hb, hA⟩ := H
  obtain ⟨i0, hi, hz0, hz1, hz2⟩ := info_parts info4
  have hmade := World.ownsRow_made (base := w.heap.size) (e := 4) (size := 1) w #[] 0 (Nat.le_refl _) (by unfold maxLen; omega) rfl
  have hai : (1 : Int) ≤ a := by omega
  have HE : Hid (∀ w1 v, w1.ownsRow w.heap.size 4 1 v keep.length (keep.map Value.bool) → Chg no w w1 → Rt (((w1.setCell ⟨q, 1, none⟩ (.int .i64 a)).setCell ⟨q, 3, none⟩ (.bool true)).setCell ⟨q, 5, none⟩ v) q (Wid F w (((w1.setCell ⟨q, 1, none⟩ (.int .i64 a)).setCell ⟨q, 3, none⟩ (.bool true)).setCell ⟨q, 5, none⟩ v)) { m with arm := a, kp := keep } T ∧
    Chg F w (((w1.setCell ⟨q, 1, none⟩ (.int .i64 a)).setCell ⟨q, 3, none⟩ (.bool true)).setCell ⟨q, 5, none⟩ v)) := fun w1 v o k => rarm_end H ha ha2 o k
  have HC : Hid (∀ w1, Chg no w w1 → w1.cell? ⟨q, 1, none⟩ = some (.int .i64 A) ∧ w1.cell? ⟨q, 3, none⟩ = some (.bool b) ∧ w1.cell? ⟨q, 5, none⟩ = some vk ∧ w1.frozen? ⟨q, 1, none⟩ = false ∧ w1.frozen? ⟨q, 3, none⟩ = false ∧ w1.frozen? ⟨q, 5, none⟩ = false) := by
    intro w1 c
    have h1 := H.chg c (fun _ _ h => h)
    obtain ⟨c0, c1, c2, c3, c4, c5, c6, c7, c8⟩ := h1.cells
    exact ⟨c1, c3, c5, h1.free 1, h1.free 3, h1.free 5⟩
  obtain ⟨xk, lk, ck, hvk⟩ : ∃ x l c, vk = .slice x l c := by
    obtain ⟨x, c, e, _⟩ := H.kep.slice
    exact ⟨x, _, c, e⟩
  subst hvk
  clear H hb hA
  rcases hk with ⟨rfl, h0⟩ | ⟨x, cap, rfl, hx, hc⟩
  · obtain rfl : keep = [] := by simpa using h0
    have C1 : Chg no w (w.alloc (.cells #[] 4)) := (Chg.refl no w).alloc _
    obtain ⟨d1, d2, d3, d4, d5, d6⟩ := HC.out _ C1
    go_enter Try.func20, Try.ntmps20
    go_wp2_with (at_builtin; refine wpList_append_own_none rfl _ _ 32 rfl w.heap.size 4 i0 1 Try.underlying32 hi _ 0 [] rfl hmade rfl ?_)
    go_ret
    exact ⟨rfl, HE.out _ _ hmade C1⟩
  · go_enter Try.func20, Try.ntmps20
    go_wp2_with (at_builtin; refine wpList_append_own _ rfl _ _ 32 rfl w.heap.size 4 i0 (.bool false) 1 1 Try.underlying32 hi hz0 hz1 hz2 rfl (by decide) _ 0 [] rfl hmade x _ cap (keep.map Value.bool) rfl ?c1 ?c2 ?c3 ?c4 ?c5 ?c6 ?_)
    case c1 => simp
    case c2 => exact fun j u hu => ((Chg.refl no w).alloc _).cell (hc j u hu) id
    case c3 => intro u hu; obtain ⟨b, _, rfl⟩ := List.mem_map.1 hu; rfl
    case c4 => simp; unfold maxLen; omega
    case c5 => simp; omega
    case c6 => simp
    intro v' w1 hown hg _
    have k1 : Chg no w w1 := ((Chg.refl no w).alloc _).grown hg (fun k hk => by simp [Value.ownBlock] at hk; omega)
    have hown' : w1.ownsRow w.heap.size 4 1 v' keep.length (keep.map Value.bool) := by simpa using hown
    obtain ⟨d1, d2, d3, d4, d5, d6⟩ := HC.out _ k1
    obtain ⟨a', c', rfl⟩ := owns_shape hown'
    have HX := HE.out _ _ hown' k1
    have HX' : Hid (_ ∧ _) := HX
    clear HX hown hown'
    go_wp2
    go_ret
    exact ⟨rfl, HX'.out⟩

end Go.Proofs.Yteehphmedmplkaa.rt
