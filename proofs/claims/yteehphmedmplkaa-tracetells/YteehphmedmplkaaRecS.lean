/- The recorder in memory; contracts of Over, Mark, record. -/
import Derived.Test.YteehphmedmplkaaRecs
import Derived.Test.YteehphmedmplkaaRefS
namespace Go.Proofs.Yteehphmedmplkaa.st
open Go.ChangeShapes Go.WideShapes Go.ChangeAt Go.RowKit Go.Proofs.Yteehphmedmplkaa.hp Go.Proofs.Yteehphmedmplkaa.md
set_option linter.unusedVariables false

theorem wid_sub {F : Nat → Prop} {w w' : World} : ∀ j, Wid F w w' j → F j ∨ w.heap.size ≤ j := fun j hj => by rcases hj with hj | hj; exact .inl hj; exact .inr hj.1

theorem news_at {w : World} {xs : List Value} {t : TypeId} : ∀ (j : Nat) (u : Value), xs[j]? = some u → (w.alloc (.cells xs.toArray t)).cell? ((⟨w.heap.size, 0, none⟩ : Addr).add j) = some u := by
  intro j u hu
  rw [Addr.add_lit, Nat.zero_add]
  exact (row_cell (heap_alloc_new w _) j u hu).1

/-- The recorder at block r, over the store at p in the blocks of S; I: the blocks of what was recorded; F: all blocks. -/
structure Rco (w : World) (r p : Nat) (F S I : Nat → Prop) (m : Mod) (vt : Value) (T : List Rec) : Prop where
  blk : w.heap[r]? = some (.cells #[.pointer (some ⟨p, 0, none⟩), vt] 44 (0, 0))
  st : St w p S m
  trc : w.ownsRow 0 61 3 vt T.length (recs T)
  byt : ∀ x ∈ T, Lies I w x.v (x.zs.map (Value.int .u8))
  rS : ¬ S r
  rI : ¬ I r
  sI : ∀ k, S k → ¬ I k
  tpg : ∀ k, vt.ownBlock = some k → k ≠ r ∧ ¬ S k ∧ ¬ I k ∧ F k
  fr : F r
  fs : ∀ k, S k → F k
  fi : ∀ k, I k → F k
  lt : ∀ k, F k → k < w.heap.size

/-- The recorder at block r, in the blocks of F. -/
def Rc (w : World) (r p : Nat) (F : Nat → Prop) (m : Mod) (T : List Rec) : Prop := ∃ S I vt, Rco w r p F S I m vt T

section
variable {w w' w1 w2 : World} {r p : Nat} {F G S S' I : Nat → Prop} {m m' : Mod} {vt vt' : Value} {T : List Rec}

theorem Rco.chg (h : Rco w r p F S I m vt T) (c : Chg G w w') (hn : ∀ k, F k → ¬ G k) : Rco w' r p F S I m vt T :=
  ⟨c.heap h.blk (hn _ h.fr), h.st.chg c (fun k hk => hn _ (h.fs k hk)), c.owns h.trc (fun k hk => hn _ (h.tpg k hk).2.2.2), fun x hx => (h.byt x hx).chg c (fun k hk => hn _ (h.fi k hk)), h.rS, h.rI, h.sI, h.tpg, h.fr, h.fs, h.fi, fun k hk => Nat.lt_of_lt_of_le (h.lt k hk) c.size⟩

theorem Rc.chg (h : Rc w r p F m T) (c : Chg G w w') (hn : ∀ k, F k → ¬ G k) : Rc w' r p F m T := by
  obtain ⟨S, I, vt, h⟩ := h
  exact ⟨S, I, vt, h.chg c hn⟩

theorem Rc.same (h : Rc w r p F m T) (c : Chg no w w') : Rc w' r p F m T := h.chg c fun _ _ h => h

theorem Rco.wide (h : Rco w r p F S I m vt T) (hn : ∀ k, F k → G k) (hl : ∀ k, G k → k < w.heap.size) : Rco w r p G S I m vt T :=
  ⟨h.blk, h.st, h.trc, h.byt, h.rS, h.rI, h.sI, fun k hk => ⟨(h.tpg k hk).1, (h.tpg k hk).2.1, (h.tpg k hk).2.2.1, hn _ (h.tpg k hk).2.2.2⟩, hn _ h.fr, fun k hk => hn _ (h.fs k hk), fun k hk => hn _ (h.fi k hk), hl⟩

theorem Rc.wide (h : Rc w r p F m T) (hn : ∀ k, F k → G k) (hl : ∀ k, G k → k < w.heap.size) : Rc w r p G m T := by
  obtain ⟨S, I, vt, h⟩ := h
  exact ⟨S, I, vt, h.wide hn hl⟩

theorem Rc.lt (h : Rc w r p F m T) : ∀ k, F k → k < w.heap.size := by
  obtain ⟨S, I, vt, h⟩ := h
  exact h.lt

theorem Rco.cells (h : Rco w r p F S I m vt T) : w.cell? ⟨r, 0, none⟩ = some (.pointer (some ⟨p, 0, none⟩)) ∧ w.cell? ⟨r, 1, none⟩ = some vt ∧ w.frozen? ⟨r, 1, none⟩ = false := by
  simp [World.cell?, World.frozen?, h.blk]

theorem Rc.ptr (h : Rc w r p F m T) : w.cell? ⟨r, 0, none⟩ = some (.pointer (some ⟨p, 0, none⟩)) := by
  obtain ⟨S, I, vt, h⟩ := h
  exact h.cells.1

theorem wid_lt {F : Nat → Prop} {w w' : World} (h : ∀ k, F k → k < w.heap.size) (c : w.heap.size ≤ w'.heap.size) : ∀ k, Wid F w w' k → k < w'.heap.size := by
  intro k hk
  rcases hk with hk | hk
  · have := h k hk; omega
  · exact hk.2

/-- The store below has turned. -/
theorem Rco.step (h : Rco w r p F S I m vt T) (s : St w' p S' m') (c : Chg S w w') (hS : ∀ k, S' k → S k ∨ w.heap.size ≤ k) : Rco w' r p (Wid F w w') S' I m' vt T ∧ Chg F w w' := by
  have hlt := h.lt
  have hsl := s.lt
  have hr : ¬ S' r := fun e => by rcases hS r e with e | e; exact h.rS e; have := hlt r h.fr; omega
  refine ⟨⟨c.heap h.blk h.rS, s, c.owns h.trc (fun k hk => (h.tpg k hk).2.1), fun x hx => (h.byt x hx).chg c (fun k hk e => h.sI k e hk), hr, h.rI, ?_, ?_, .inl h.fr, ?_, fun k hk => .inl (h.fi k hk), wid_lt hlt c.size⟩, c.mono fun k hk => .inl (h.fs k hk)⟩
  · intro k hk e
    rcases hS k hk with e' | e'
    · exact h.sI k e' e
    · have := hlt k (h.fi k e); omega
  · intro k hk
    obtain ⟨b1, b2, b3, b4⟩ := h.tpg k hk
    refine ⟨b1, fun e => ?_, b3, .inl b4⟩
    rcases hS k e with e' | e'
    · exact b2 e'
    · have := hlt k b4; omega
  · intro k hk
    rcases hS k hk with e' | e'
    · exact .inl (h.fs k e')
    · exact .inr ⟨e', hsl k hk⟩

theorem Rc.step (h : Rc w r p F m T) : ∃ S, St w p S m ∧ (∀ k, S k → F k) ∧ ∀ w' S' m', St w' p S' m' → Chg S w w' → (∀ k, S' k → S k ∨ w.heap.size ≤ k) → Rc w' r p (Wid F w w') m' T ∧ Chg F w w' := by
  obtain ⟨S, I, vt, h⟩ := h
  exact ⟨S, h.st, h.fs, fun w' S' m' s c hS => ⟨⟨S', I, vt, (h.step s c hS).1⟩, (h.step s c hS).2⟩⟩

/-- The store below has turned within its own blocks. -/
theorem Rc.keep (h : Rc w r p F m T) : ∃ S, St w p S m ∧ (∀ k, S k → F k) ∧ ∀ w' m', St w' p S m' → Chg S w w' → Rc w' r p F m' T ∧ Chg F w w' := by
  obtain ⟨S, I, vt, h⟩ := h
  refine ⟨S, h.st, h.fs, fun w' m' s c => ⟨⟨S, I, vt, ?_⟩, c.mono fun k hk => .inl (h.fs k hk)⟩⟩
  exact ⟨c.heap h.blk h.rS, s, c.owns h.trc (fun k hk => (h.tpg k hk).2.1), fun x hx => (h.byt x hx).chg c (fun k hk e => h.sI k e hk), h.rS, h.rI, h.sI, h.tpg, h.fr, h.fs, h.fi, fun k hk => Nat.lt_of_lt_of_le (h.lt k hk) c.size⟩

/-- One more is recorded: v its bytes, in new memory. -/
theorem Rco.record (h : Rco w r p F S I m vt T) (c1 : Chg no w w1) (hg : w1.grownBy w2 vt.ownBlock) {k a : Int} {v : Value} {zs : List Int} (hv : w1.ownsRow w.heap.size 5 1 v zs.length (zs.map (Value.int .u8)))
    (hf : w2.ownsRow 0 61 3 vt' (T.length + 1) (recs T ++ [.int .i64 k, .int .i64 a, v])) (hn : ∀ k, vt'.ownBlock = some k → vt.ownBlock = some k ∨ w1.heap.size ≤ k) :
    Rco (w2.setCell ⟨r, 1, none⟩ vt') r p (Wid F w (w2.setCell ⟨r, 1, none⟩ vt')) S (fun k => I k ∨ (w.heap.size ≤ k ∧ k < w1.heap.size)) m vt' (T ++ [⟨k, a, v, zs⟩]) ∧ Chg F w (w2.setCell ⟨r, 1, none⟩ vt') := by
  have hl := h.lt
  have hrl := hl r h.fr
  have s1 := h.chg c1 (fun _ _ h => h)
  have hs1 := c1.size
  have g2 : Chg (fun k => vt.ownBlock = some k) w1 w2 := (Chg.refl _ w1).grown hg (fun k hk => .inl hk)
  have hs2 := g2.size
  have g3 : Chg (fun k => vt.ownBlock = some k ∨ k = r) w1 (w2.setCell ⟨r, 1, none⟩ vt') := (g2.mono fun k hk => .inl (.inl hk)).setCell _ _ (.inl (.inr rfl))
  have hz : (w2.setCell ⟨r, 1, none⟩ vt').heap.size = w2.heap.size := by simp
  have hI : ∀ k, (I k ∨ (w.heap.size ≤ k ∧ k < w1.heap.size)) → ¬ (vt.ownBlock = some k ∨ k = r) := by
    intro k hk e
    rcases hk with hk | hk
    · rcases e with e | rfl
      · exact (h.tpg k e).2.2.1 hk
      · exact h.rI hk
    · rcases e with e | rfl
      · have := hl k (h.tpg k e).2.2.2; omega
      · omega
  have hS : ∀ k, S k → ¬ (vt.ownBlock = some k ∨ k = r) := by
    intro k hk e
    rcases e with e | rfl
    · exact (h.tpg k e).2.1 hk
    · exact h.rS hk
  have hfree : ∀ k, vt'.ownBlock = some k → k ≠ r ∧ ¬ S k ∧ ¬ (I k ∨ (w.heap.size ≤ k ∧ k < w1.heap.size)) ∧ (F k ∨ w1.heap.size ≤ k) := by
    intro k hk
    rcases hn k hk with e | e
    · obtain ⟨b1, b2, b3, b4⟩ := h.tpg k e
      exact ⟨b1, b2, fun e' => by rcases e' with e' | e'; exact b3 e'; have := hl k b4; omega, .inl b4⟩
    · exact ⟨by omega, fun e' => by have := hl k (h.fs k e'); omega, fun e' => by rcases e' with e' | e'; have := hl k (h.fi k e'); omega; omega, .inr e⟩
  refine ⟨⟨?_, s1.st.chg g3 hS, ?_, ?_, h.rS, fun e => by rcases e with e | e; exact h.rI e; omega, ?_, ?_, .inl h.fr, fun k hk => .inl (h.fs k hk), ?_, ?_⟩, ?_⟩
  · have hb2 : w2.heap[r]? = _ := g2.heap s1.blk (fun e => (h.tpg r e).1 rfl)
    rw [row_set (xs := [_, _]) hb2 1 vt']
    simp
  · rw [recs_append]
    have := ownsRow_setCell_other hf (a := ⟨r, 1, none⟩) (by intro e; exact (hfree r e).1 rfl) vt'
    simpa using this
  · intro x hx
    simp only [List.mem_append, List.mem_singleton] at hx
    rcases hx with hx | rfl
    · exact ((s1.byt x hx).mono (fun k hk => .inl hk)).chg g3 hI
    · have : Lies (fun k => I k ∨ (w.heap.size ≤ k ∧ k < w1.heap.size)) w1 v (zs.map (Value.int .u8)) := Lies.of_owns hv (fun k hk => .inr (hv.lt k hk))
      exact this.chg g3 hI
  · intro k hk e
    rcases e with e | e
    · exact h.sI k hk e
    · have := hl k (h.fs k hk); omega
  · intro k hk
    obtain ⟨b1, b2, b3, b4⟩ := hfree k hk
    refine ⟨b1, b2, b3, ?_⟩
    rcases b4 with b4 | b4
    · exact .inl b4
    · have := (hf.lt k hk).2
      exact .inr ⟨by omega, by omega⟩
  · intro k e
    rcases e with e | e
    · exact .inl (h.fi k e)
    · exact .inr ⟨e.1, by omega⟩
  · intro k e
    rcases e with e | e
    · have := hl k e
      omega
    · exact e.2
  · exact ((c1.of_no F).trans g2 (fun k hk => .inl (h.tpg k hk).2.2.2)).setCell _ _ (.inl h.fr)
end

theorem mark_any {w : World} {r p : Nat} {F : Nat → Prop} {m : Mod} {T : List Rec} (h : Rc w r p F m T) :
    Calls Try.prog 28 #[.pointer (some ⟨r, 0, none⟩)] w fun e w' => e = .returned (.int .i64 T.length) ∧ w' = w := by
  obtain ⟨S, I, vt, h⟩ := h
  obtain ⟨c0, c1, f1⟩ := h.cells
  obtain ⟨a, c, rfl⟩ := owns_shape h.trc
  clear h
  go_enter Try.func28, Try.ntmps28
  go_wp2
  go_ret
  exact ⟨rfl, rfl⟩

theorem over_any {w w0 : World} {p : Nat} {S : Nat → Prop} {m : Mod} (h : St w p S m) :
    Calls Try.prog 42 #[.pointer (some ⟨p, 0, none⟩)] w fun e w' => ∃ r, e = .returned (.pointer (some ⟨r, 0, none⟩)) ∧ Rc w' r p (Wid S w w') m [] ∧ Chg no w w' := by
  have hl := h.lt
  have H : Hid (St w p S m) := h
  clear h
  go_enter Try.func42, Try.ntmps42
  go_wp2
  go_ret
  have c : Chg no w (w.alloc (.cells #[.pointer (some ⟨p, 0, none⟩), .slice none 0 0] 44)) := (Chg.refl no w).alloc _
  refine ⟨_, rfl, ⟨S, no, .slice none 0 0, heap_alloc_new _ _, H.out.same c, World.ownsRow_nil _ _ _ _, by simp, fun e => by have := hl _ e; omega, id, fun _ _ h => h, by simp [Value.ownBlock], .inr ⟨Nat.le_refl _, by simp⟩, fun k hk => .inl hk, fun _ h => h.elim, wid_lt hl c.size⟩, c⟩

theorem made_in {w : World} (n sz : Nat) (h1 : 1 ≤ n) (h2 : n ≤ 65536) (h3 : 1 ≤ sz) (h4 : sz ≤ 4096) :
    Calls Try.prog 10 #[.int .i64 n, .int .i64 sz] w fun e w' => ∃ r p, e = .returned (.pointer (some ⟨r, 0, none⟩)) ∧ Rc w' r p (fun k => w.heap.size ≤ k ∧ k < w'.heap.size) (Mod.new n sz) [] ∧ Chg no w w' := by
  go_enter Try.func10, Try.ntmps10
  go_wp2_with fail
  refine (new_in n sz h1 h2 h3 h4).mono ?_
  rintro e w1 ⟨p, rfl, s1, k1⟩
  go_wp2_with fail
  refine (over_any (w0 := w) s1).mono ?_
  rintro e w2 ⟨r, rfl, s2, k2⟩
  go_wp2
  go_ret
  have z1 := k1.size
  have z2 := k2.size
  refine ⟨r, p, rfl, s2.wide ?_ (fun k hk => hk.2), k1.then k2⟩
  intro k hk
  rcases hk with hk | hk <;> exact ⟨by omega, by omega⟩

theorem made_out {w : World} (n sz : Int) (h : n < 1 ∨ 65536 < n ∨ sz < 1 ∨ 4096 < sz) :
    Calls Try.prog 10 #[.int .i64 n, .int .i64 sz] w fun e w' => e = .returned (.pointer none) ∧ w' = w := by
  have HN := new_out (w := w) n sz h
  clear h
  go_enter Try.func10, Try.ntmps10
  go_wp2_with fail
  refine HN.mono ?_
  rintro e w1 ⟨rfl, rfl⟩
  go_wp2
  go_ret
  exact ⟨rfl, rfl⟩

theorem info61 : (Try.prog.info? 61).map (fun i => (i.zero, i.size, i.bytes)) = some (some (.agg #[.int .i64 0, .int .i64 0, .slice none 0 0]), 3, 40) := by kernel_rfl

/-- What has an error is not recorded. -/
theorem record_err {w : World} {r : Nat} (x : Int) (hx : x ≠ 0) (k a : Int) (b : Option Addr) (l c : Nat) :
    Calls Try.prog 44 #[.pointer (some ⟨r, 0, none⟩), .int .i64 x, .agg #[.int .i64 k, .int .i64 a, .slice b l c]] w fun e w' => e = .returned (.tuple #[]) ∧ Chg no w w' := by
  go_enter Try.func44, Try.ntmps44
  go_wp2
  go_end0
  exact ⟨rfl, (Chg.refl no w).alloc _⟩

set_option maxRecDepth 100000 in
set_option maxHeartbeats 8000000 in
theorem record_ok {w : World} {r p : Nat} {F J : Nat → Prop} {m : Mod} {T : List Rec} (h : Rc w r p F m T) (ht : T.length ≤ 100000000) (k a : Int) (v : Value) (zs : List Int) (hv : Lies J w v (zs.map (Value.int .u8))) (hl : zs.length ≤ 100000) (hJ : ∀ k, J k → k < w.heap.size) :
    Calls Try.prog 44 #[.pointer (some ⟨r, 0, none⟩), .int .i64 0, .agg #[.int .i64 k, .int .i64 a, v]] w fun e w' => e = .returned (.tuple #[]) ∧ (∃ v', Rc w' r p (Wid F w w') m (T ++ [⟨k, a, v', zs⟩])) ∧ Chg F w w' := by
  obtain ⟨S, I, vt, h⟩ := h
  obtain ⟨c0, c1, f1⟩ := h.cells
  obtain ⟨i0, hi, hz0, hz1, hz2⟩ := info_parts info61
  obtain ⟨av, cv, hvv, _⟩ := hv.slice
  simp only [List.length_map] at hvv
  subst hvv
  obtain ⟨xt, ct, hvt⟩ := owns_shape h.trc
  subst hvt
  have hrl := h.lt r h.fr
  obtain ⟨t, htt⟩ : ∃ t, T.length = t := ⟨_, rfl⟩
  rw [htt] at c1 ht
  have HH : Hid (Rco w r p F S I m (.slice xt T.length ct) T) := h
  have HTT : Hid (T.length = t) := htt
  have HL : Hid (∀ w', Chg no w w' → Lies J w' (.slice av zs.length cv) (zs.map (Value.int .u8))) := fun w' c => hv.chg c (fun _ _ h => h)
  have HJ : Hid (∀ k, J k → k < w.heap.size) := hJ
  have HE : Hid (∀ w3 a3 c3, w3.ownsRow w.heap.size 5 1 (.slice a3 zs.length c3) zs.length (zs.map (Value.int .u8)) → Chg no w w3 →
      w3.cell? ⟨r, 1, none⟩ = some (.slice xt t ct) ∧ r < w3.heap.size ∧ (w3.alloc (.cells #[.int .i64 k, .int .i64 a, .slice a3 zs.length c3] 61)).ownsRow 0 61 3 (.slice xt t ct) t (recs T) ∧
      (∀ (j : Nat) (u : Value), ([.int .i64 k, .int .i64 a, .slice a3 zs.length c3] : List Value)[j]? = some u → (w3.alloc (.cells #[.int .i64 k, .int .i64 a, .slice a3 zs.length c3] 61)).cell? ((⟨w3.heap.size, 0, none⟩ : Addr).add j) = some u) ∧
      ∀ v5 w5, w5.ownsRow 0 61 3 v5 (t + 1) (recs T ++ [.int .i64 k, .int .i64 a, .slice a3 zs.length c3]) → (w3.alloc (.cells #[.int .i64 k, .int .i64 a, .slice a3 zs.length c3] 61)).grownBy w5 (Value.slice xt t ct).ownBlock → (∀ k', v5.ownBlock = some k' → (Value.slice xt t ct).ownBlock = some k' ∨ (w3.alloc (.cells #[.int .i64 k, .int .i64 a, .slice a3 zs.length c3] 61)).heap.size ≤ k') →
        w5.cell? ⟨r, 1, none⟩ = some (.slice xt t ct) ∧ w5.frozen? ⟨r, 1, none⟩ = false ∧ (∃ v', Rc (w5.setCell ⟨r, 1, none⟩ v5) r p (Wid F w (w5.setCell ⟨r, 1, none⟩ v5)) m (T ++ [⟨k, a, v', zs⟩])) ∧ Chg F w (w5.setCell ⟨r, 1, none⟩ v5)) := by
    intro w3 a3 c3 o3 k3
    have kk := k3.alloc (.cells #[.int .i64 k, .int .i64 a, .slice a3 zs.length c3] 61)
    have h3 := HH.out.chg kk (fun _ _ h => h)
    have h3t := h3.trc
    rw [HTT.out] at h3t
    refine ⟨k3.cell c1 id, Nat.lt_of_lt_of_le hrl k3.size, h3t, news_at (xs := [.int .i64 k, .int .i64 a, .slice a3 zs.length c3]), fun v5 w5 o5 g5 n5 => ?_⟩
    have RC := HH.out.record (k := k) (a := a) (v := .slice a3 zs.length c3) (zs := zs) kk (by rw [HTT.out]; exact g5) (o3.alloc _) (by rw [HTT.out]; exact o5) (by rw [HTT.out]; exact n5)
    have hC5 : Chg (fun k => (Value.slice xt t ct).ownBlock = some k) w w5 := (kk.of_no _).grown g5 (fun k hk => .inl hk)
    have n1 : ¬ (Value.slice xt t ct).ownBlock = some r := fun e => (HH.out.tpg r (by rw [HTT.out]; exact e)).1 rfl
    exact ⟨hC5.cell c1 n1, (World.frozen?_of_block (hC5.block r hrl n1)).trans f1, ⟨_, _, _, _, RC.1⟩, RC.2⟩
  have H1 : ∀ (a3 : Option Addr) (c3 : Nat), ∀ u ∈ ([.int .i64 k, .int .i64 a, .slice a3 zs.length c3] : List Value), u.oneCell' = true := by
    intro a3 c3 u hu
    simp at hu
    rcases hu with rfl | rfl | rfl <;> rfl
  clear h hv hJ htt
  go_enter Try.func44, Try.ntmps44
  go_wp2_with fail
  go_region_law (first
    | (refine step_append_at rfl (.tmp 12) (.tmp 15) 42 rfl 61 i0 (.agg #[.int .i64 0, .int .i64 0, .slice none 0 0]) 3 40 Try.underlying42 hi hz0 hz1 hz2 rfl (by decide) (.slice xt t ct) t (recs T) (by simp [Act.eval]) HO.out ⟨w3.heap.size, 0, none⟩ 1 1 [.int .i64 k, .int .i64 a, .slice a3 zs.length c3] (by simp [Act.eval]) rfl HNw.out (H1 a3 c3) (by unfold maxLen; omega) (by omega) ?_; intro v5 w5 o5 g5 n5; obtain ⟨a5, c5', rfl⟩ := owns_shape o5; obtain ⟨y1, y2, y3, y4⟩ := HEnd.out _ _ o5 g5 n5)
    | (refine step_call rfl 53 #[.agg #[.int .i64 k, .int .i64 a, .slice av zs.length cv]] (by go_simp) (copyRec_any k a _ zs J _ (HL.out _ ((Chg.refl no _).alloc _).drew) hl (fun k hk => by have := HJ.out k hk; simp; omega)) ?_; rintro e w3 ⟨v3, rfl, o3, k3⟩; obtain ⟨a3, c3, rfl⟩ := owns_shape o3; obtain ⟨x1, x2, x3, x4, x5⟩ := HE.out w3 a3 c3 (owns_base o3 (by simp)) (((Chg.refl no w).alloc _).drew.then k3); have HO : Hid _ := x3; have HNw : Hid _ := x4; have HEnd : Hid _ := x5; clear x3 x4 x5; refine ⟨_, rfl, ?_⟩))
  all_goals go_wp2
  all_goals go_end0
  all_goals exact ⟨rfl, y3, y4⟩

end Go.Proofs.Yteehphmedmplkaa.st
