/- The writer in memory, and contracts of its functions. -/
import Derived.Test.YtlcbfdbnjohicaaSmall
import Derived.Test.YtlcbfdbnjohicaaApp
namespace Go.Proofs.Ytlcbfdbnjohicaa.st
open Go.ChangeShapes Go.WideShapes Go.ChangeAt Go.RowKit Go.Proofs.Ytlcbfdbnjohicaa.hp Go.Proofs.Ytlcbfdbnjohicaa.dg
set_option linter.unusedVariables false

/-- The writer at block p, in the blocks of F: the slice v shows its bytes; is it broken? -/
structure Wro (w : World) (p : Nat) (F : Nat → Prop) (v : Value) (bs : List Int) (br : Bool) : Prop where
  blk : w.heap[p]? = some (.cells #[v, .bool br] 50 (0, 0))
  own : w.ownsRow 0 5 1 v bs.length (bs.map (Value.int .u8))
  vp : ∀ k, v.ownBlock = some k → k ≠ p ∧ F k
  fp : F p
  lt : ∀ k, F k → k < w.heap.size

def Wri (w : World) (p : Nat) (F : Nat → Prop) (bs : List Int) (br : Bool) : Prop := ∃ v, Wro w p F v bs br

section
variable {w w' : World} {p : Nat} {F G : Nat → Prop} {v : Value} {bs : List Int} {br : Bool}

theorem Wro.chg (h : Wro w p F v bs br) (c : Chg G w w') (hn : ∀ k, F k → ¬ G k) : Wro w' p F v bs br :=
  ⟨c.heap h.blk (hn _ h.fp), c.owns h.own (fun k hk => hn _ (h.vp k hk).2), h.vp, h.fp, fun k hk => Nat.lt_of_lt_of_le (h.lt k hk) c.size⟩

theorem Wri.chg (h : Wri w p F bs br) (c : Chg G w w') (hn : ∀ k, F k → ¬ G k) : Wri w' p F bs br := by
  obtain ⟨v, h⟩ := h
  exact ⟨v, h.chg c hn⟩

theorem Wri.same (h : Wri w p F bs br) (c : Chg no w w') : Wri w' p F bs br := h.chg c fun _ _ h => h

theorem Wro.wide (h : Wro w p F v bs br) (hn : ∀ k, F k → G k) (hl : ∀ k, G k → k < w.heap.size) : Wro w p G v bs br :=
  ⟨h.blk, h.own, fun k hk => ⟨(h.vp k hk).1, hn _ (h.vp k hk).2⟩, hn _ h.fp, hl⟩

theorem Wri.wide (h : Wri w p F bs br) (hn : ∀ k, F k → G k) (hl : ∀ k, G k → k < w.heap.size) : Wri w p G bs br := by
  obtain ⟨v, h⟩ := h
  exact ⟨v, h.wide hn hl⟩

theorem Wri.lt (h : Wri w p F bs br) : ∀ k, F k → k < w.heap.size := by
  obtain ⟨v, h⟩ := h
  exact h.lt

theorem Wri.fp (h : Wri w p F bs br) : F p := by
  obtain ⟨v, h⟩ := h
  exact h.fp

theorem Wro.cells (h : Wro w p F v bs br) : w.cell? ⟨p, 0, none⟩ = some v ∧ w.cell? ⟨p, 1, none⟩ = some (.bool br) ∧ w.frozen? ⟨p, 0, none⟩ = false ∧ w.frozen? ⟨p, 1, none⟩ = false := by
  simp [World.cell?, World.frozen?, h.blk]

/-- A new row of bytes is stored. -/
theorem Wro.grow (h : Wro w p F v bs br) {w1 w2 : World} {v' : Value} {ys : List Int} (c1 : Chg no w w1) (g : w1.grownBy w2 v.ownBlock) (o : w2.ownsRow 0 5 1 v' ys.length (ys.map (Value.int .u8))) (hn : ∀ k, v'.ownBlock = some k → v.ownBlock = some k ∨ w1.heap.size ≤ k) :
    Wro (w2.setCell ⟨p, 0, none⟩ v') p (Wid F w (w2.setCell ⟨p, 0, none⟩ v')) v' ys br ∧ Chg F w (w2.setCell ⟨p, 0, none⟩ v') := by
  have hpl := h.lt p h.fp
  have h1 := h.chg c1 (fun _ _ h => h)
  have s1 := c1.size
  have s2 := g.size
  have g2 : Chg (fun k => v.ownBlock = some k) w1 w2 := (Chg.refl _ w1).grown g (fun k hk => .inl hk)
  have hb2 : w2.heap[p]? = some (.cells #[v, .bool br] 50 (0, 0)) := g2.heap h1.blk (fun e => (h.vp p e).1 rfl)
  have hv' : ∀ k, v'.ownBlock = some k → k ≠ p ∧ (F k ∨ w1.heap.size ≤ k) := by
    intro k hk
    rcases hn k hk with e | e
    · exact ⟨(h.vp k e).1, .inl (h.vp k e).2⟩
    · exact ⟨by omega, .inr e⟩
  refine ⟨⟨?_, ?_, ?_, .inl h.fp, ?_⟩, ((c1.of_no F).trans g2 (fun k hk => .inl (h.vp k hk).2)).setCell _ _ (.inl h.fp)⟩
  · have := row_set (xs := [_, _]) hb2 0 v'
    simpa using this
  · exact ownsRow_setCell_other o (by intro e; exact (hv' p e).1 rfl) _
  · intro k hk
    refine ⟨(hv' k hk).1, ?_⟩
    rcases (hv' k hk).2 with e | e
    · exact .inl e
    · have := (o.lt k hk).2
      exact .inr ⟨by omega, by simp; omega⟩
  · intro k hk
    rcases hk with hk | hk
    · have := h.lt k hk
      simp
      omega
    · exact hk.2

/-- It breaks. -/
theorem Wro.break (h : Wro w p F v bs br) : Wro (w.setCell ⟨p, 1, none⟩ (.bool true)) p F v bs true ∧ Chg F w (w.setCell ⟨p, 1, none⟩ (.bool true)) := by
  refine ⟨⟨?_, ?_, h.vp, h.fp, fun k hk => by simpa using h.lt k hk⟩, (Chg.refl F w).setCell _ _ (.inl h.fp)⟩
  · have := row_set (xs := [_, _]) h.blk 1 (.bool true)
    simpa using this
  · exact ownsRow_setCell_other h.own (by intro e; exact (h.vp p e).1 rfl) _
end

theorem sealed_range {w : World} {p : Nat} {F : Nat → Prop} {bs : List Int} {br : Bool} (h : Wri w p F bs br) (n : Int) (hh : br = true ∨ n < 0 ∨ 1048576 < n) :
    Calls Try.prog 25 #[.pointer (some ⟨p, 0, none⟩), .int .i64 n] w fun e w' => e = .returned (.tuple #[.slice none 0 0, .int .i64 1]) ∧ w' = w := by
  obtain ⟨v, h⟩ := h
  obtain ⟨c0, c1, c2, c3⟩ := h.cells
  obtain ⟨a, c, rfl⟩ := owns_shape h.own
  clear h
  have hc : br = true ∨ (br = false ∧ n < 0) ∨ (br = false ∧ 0 ≤ n ∧ 1048576 < n) := by
    cases br <;> simp at hh ⊢ <;> omega
  clear hh
  rcases hc with rfl | ⟨rfl, h1⟩ | ⟨rfl, h1, h2⟩
  all_goals
    go_enter Try.func25, Try.ntmps25
    go_wp2
    go_ret2
    exact ⟨rfl, rfl⟩

theorem sealed_full {w : World} {p : Nat} {F : Nat → Prop} {bs : List Int} (h : Wri w p F bs false) (n : Int) (h0 : 0 ≤ n) (h1 : n ≤ 1048576) (h2 : n < bs.length) :
    Calls Try.prog 25 #[.pointer (some ⟨p, 0, none⟩), .int .i64 n] w fun e w' => e = .returned (.tuple #[.slice none 0 0, .int .i64 4]) ∧ w' = w := by
  obtain ⟨v, h⟩ := h
  obtain ⟨c0, c1, c2, c3⟩ := h.cells
  obtain ⟨a, c, rfl⟩ := owns_shape h.own
  clear h
  go_enter Try.func25, Try.ntmps25
  go_wp2
  go_ret2
  exact ⟨rfl, rfl⟩

theorem sealed_ok {w : World} {p : Nat} {F : Nat → Prop} {bs : List Int} (h : Wri w p F bs false) (n : Nat) (h1 : n ≤ 1048576) (h2 : bs.length ≤ n) :
    Calls Try.prog 25 #[.pointer (some ⟨p, 0, none⟩), .int .i64 n] w fun e w' => e = .returned (.tuple #[.slice (some ⟨w.heap.size, 0, none⟩) n n, .int .i64 0]) ∧
      w'.heap[w.heap.size]? = some (.cells ((fill bs n).map (Value.int .u8)).toArray 5 (0, 0)) ∧ Chg no w w' := by
  obtain ⟨v, h⟩ := h
  obtain ⟨c0, c1, c2, c3⟩ := h.cells
  obtain ⟨a, c, rfl⟩ := owns_shape h.own
  have HF := filled_any w _ bs n (Lies.of_owns (J := fun _ => True) h.own (fun _ _ => trivial)) h2 (by omega)
  clear h
  have i1 : (n : Int) ≤ 1048576 := by omega
  have i2 : (bs.length : Int) ≤ n := by omega
  go_enter Try.func25, Try.ntmps25
  go_wp2_with fail
  refine HF.mono ?_
  rintro e w1 ⟨rfl, g1, k1⟩
  clear HF
  go_wp2
  go_ret2
  exact ⟨rfl, g1, k1⟩

theorem number_broken {w : World} {p : Nat} {F : Nat → Prop} {bs : List Int} (h : Wri w p F bs true) (a n : Int) :
    Calls Try.prog 35 #[.pointer (some ⟨p, 0, none⟩), .int .i64 a, .int .i64 n] w fun e w' => e = .returned (.tuple #[]) ∧ w' = w := by
  obtain ⟨v, h⟩ := h
  obtain ⟨c0, c1, c2, c3⟩ := h.cells
  obtain ⟨x, c, rfl⟩ := owns_shape h.own
  clear h
  go_enter Try.func35, Try.ntmps35
  go_wp2
  refine bodyPost_ret (results_none rfl _ _ _) rfl ?_
  exact ⟨rfl, rfl⟩

theorem number_bad {w : World} {p : Nat} {F : Nat → Prop} {bs : List Int} (h : Wri w p F bs false) (k : Nat) (h1 : 1 ≤ k) (h2 : k ≤ 7) (n : Int) (hn : n < -1 ∨ most k ≤ n) :
    Calls Try.prog 35 #[.pointer (some ⟨p, 0, none⟩), .int .i64 k, .int .i64 n] w fun e w' => e = .returned (.tuple #[]) ∧ Wri w' p F bs true ∧ Chg F w w' := by
  obtain ⟨v, h⟩ := h
  obtain ⟨c0, c1, c2, c3⟩ := h.cells
  obtain ⟨x, c, rfl⟩ := owns_shape h.own
  have hb := h.break
  clear h
  have HA := allOnes_any w k h1 h2
  have hc : n < -1 ∨ (-1 ≤ n ∧ most k ≤ n) := by omega
  clear hn
  obtain ⟨M, hM⟩ : ∃ M, most k = M := ⟨_, rfl⟩
  rw [hM] at HA hc
  clear hM
  rcases hc with h3 | ⟨h3, h4⟩
  · go_enter Try.func35, Try.ntmps35
    go_wp2
    refine bodyPost_ret (results_none rfl _ _ _) rfl ?_
    exact ⟨rfl, ⟨_, hb.1⟩, hb.2⟩
  · go_enter Try.func35, Try.ntmps35
    go_wp2_with fail
    refine HA.mono ?_
    rintro e w1 ⟨rfl, rfl⟩
    go_wp2
    refine bodyPost_ret (results_none rfl _ _ _) rfl ?_
    exact ⟨rfl, ⟨_, hb.1⟩, hb.2⟩

/-- Within number's loop: k bytes are still to come. -/
def NumAt (w : World) (p : Nat) (F : Nat → Prop) (bs : List Int) (n : Int) (K k : Nat) (wr : World) : Prop :=
  ∃ cur, cur ++ enc n k = bs ++ enc n K ∧ Wri wr p (Wid F w wr) cur false ∧ Chg F w wr

set_option maxHeartbeats 4000000 in
theorem number_ok {w : World} {p : Nat} {F : Nat → Prop} {bs : List Int} (h : Wri w p F bs false) (hl : bs.length ≤ 100000000) (K : Nat) (h1 : 1 ≤ K) (h2 : K ≤ 7) (n : Int) (hn1 : -1 ≤ n) (hn2 : n < most K) :
    Calls Try.prog 35 #[.pointer (some ⟨p, 0, none⟩), .int .i64 K, .int .i64 n] w fun e w' => e = .returned (.tuple #[]) ∧ Wri w' p (Wid F w w') (bs ++ enc n K) false ∧ Chg F w w' := by
  have HN : NumAt w p F bs n K K w := ⟨bs, rfl, h.wide (fun k hk => .inl hk) (fun k hk => by rcases hk with hk | hk; exact h.lt k hk; omega), Chg.refl _ _⟩
  obtain ⟨v, h⟩ := h
  obtain ⟨c0, c1, c2, c3⟩ := h.cells
  obtain ⟨x, c, rfl⟩ := owns_shape h.own
  clear h
  have HA := allOnes_any w K h1 h2
  obtain ⟨M, hM⟩ : ∃ M, most K = M := ⟨_, rfl⟩
  rw [hM] at HA hn2
  clear hM
  have i1 : (1 : Int) ≤ K := by omega
  have i2 : (K : Int) ≤ 7 := by omega
  go_enter Try.func35, Try.ntmps35
  go_wp2_with fail
  refine HA.mono ?_
  rintro e w1 ⟨rfl, rfl⟩
  clear c0 c1 c2 c3 HA
  go_wp2_with fail
  go_loopw [6] (fun s wr => ∃ k : Nat, k ≤ K ∧ s = .int .i64 (8 * (k : Int) - 8) ∧ NumAt w1 p F bs n K k wr) (fun s _ => (intOf s + 8).toNat)
  case atStart => exact ⟨K, Nat.le_refl _, by go_num, HN⟩
  case round =>
    clear HN
    obtain ⟨k, hk, hs, hN⟩ := hrel
    rcases k with _ | k
    · simp at hs
      subst hs
      obtain ⟨cur, hcur, hW, hC⟩ := hN
      go_wp2
      go_end0
      simp [enc] at hcur
      subst hcur
      exact ⟨rfl, hW, hC⟩
    · have e : (8 * ((k + 1 : Nat) : Int) - 8) = 8 * (k : Int) := by omega
      rw [e] at hs
      subst hs
      clear e
      have hk1 : (k : Int) ≤ 6 := by omega
      obtain ⟨cur, hcur, ⟨v, hW⟩, hC⟩ := hN
      obtain ⟨c0, c1, c2, c3⟩ := hW.cells
      obtain ⟨x, c, rfl⟩ := owns_shape hW.own
      obtain ⟨i0, hi0, hz0, hz1, hz2⟩ := info_parts info5
      have hcl : cur.length ≤ 100000007 := by
        have := congrArg List.length hcur
        simp [enc_length] at this
        omega
      have hpl := hW.lt p hW.fp
      have HW : Hid (Wro wr p (Wid F w1 wr) (.slice x cur.length c) cur false) := hW
      have HCR : Hid (cur ++ enc n (k + 1) = bs ++ enc n K) := hcur
      have HC : Hid (Chg F w1 wr) := hC
      clear hW hcur hC
      have HD : Hid (digit n k = (IntKind.u8.wrap (n / 2 ^ (8 * (k : Int)).toNat))) := by
        have e : (8 * (k : Int)).toNat = 8 * k := by omega
        simp [IntKind.wrap, IntKind.bits, IntKind.signed, digit, e, Hid]
      have KW : Chg no wr ((wr.alloc (.cells #[.int .u8 (IntKind.u8.wrap (n / 2 ^ (8 * (k : Int)).toNat))] 5)).drew) := ((Chg.refl no wr).alloc _).drew
      have HO : Hid (((wr.alloc (.cells #[.int .u8 (IntKind.u8.wrap (n / 2 ^ (8 * (k : Int)).toNat))] 5)).drew).ownsRow 0 5 1 (.slice x cur.length c) cur.length (cur.map (Value.int .u8))) := KW.owns HW.out.own (fun _ _ h => h)
      have HNw : Hid (∀ (j : Nat) (u : Value), ([.int .u8 (IntKind.u8.wrap (n / 2 ^ (8 * (k : Int)).toNat))] : List Value)[j]? = some u → ((wr.alloc (.cells #[.int .u8 (IntKind.u8.wrap (n / 2 ^ (8 * (k : Int)).toNat))] 5)).drew).cell? ((⟨wr.heap.size, 0, none⟩ : Addr).add j) = some u) := news_at (w := wr) (xs := [.int .u8 (IntKind.u8.wrap (n / 2 ^ (8 * (k : Int)).toNat))]) (t := 5)
      have H1 : ∀ u ∈ ([.int .u8 (IntKind.u8.wrap (n / 2 ^ (8 * (k : Int)).toNat))] : List Value), u.oneCell' = true := by
        intro u hu
        simp at hu
        subst hu
        rfl
      have HEnd : Hid (∀ v5 w5, w5.ownsRow 0 5 1 v5 (cur.length + 1) (cur.map (Value.int .u8) ++ [.int .u8 (IntKind.u8.wrap (n / 2 ^ (8 * (k : Int)).toNat))]) → ((wr.alloc (.cells #[.int .u8 (IntKind.u8.wrap (n / 2 ^ (8 * (k : Int)).toNat))] 5)).drew).grownBy w5 (Value.slice x cur.length c).ownBlock → (∀ k', v5.ownBlock = some k' → (Value.slice x cur.length c).ownBlock = some k' ∨ ((wr.alloc (.cells #[.int .u8 (IntKind.u8.wrap (n / 2 ^ (8 * (k : Int)).toNat))] 5)).drew).heap.size ≤ k') →
          w5.cell? ⟨p, 0, none⟩ = some (.slice x cur.length c) ∧ w5.frozen? ⟨p, 0, none⟩ = false ∧ NumAt w1 p F bs n K k (w5.setCell ⟨p, 0, none⟩ v5)) := by
        intro v5 w5 o5 g5 n5
        have hC5 : Chg (fun k => (Value.slice x cur.length c).ownBlock = some k) wr w5 := (KW.of_no _).grown g5 (fun k hk => .inl hk)
        have n1 : ¬ (Value.slice x cur.length c).ownBlock = some p := fun e => (HW.out.vp p e).1 rfl
        have G := HW.out.grow (ys := cur ++ [(IntKind.u8.wrap (n / 2 ^ (8 * (k : Int)).toNat))]) KW g5 (by simpa using o5) n5
        have C5 : Chg F w1 (w5.setCell ⟨p, 0, none⟩ v5) := HC.out.trans G.2 wid_sub
        refine ⟨hC5.cell c0 n1, (World.frozen?_of_block (hC5.block p hpl n1)).trans c2, cur ++ [(IntKind.u8.wrap (n / 2 ^ (8 * (k : Int)).toNat))], ?_, ⟨v5, G.1.wide ?_ ?_⟩, C5⟩
        · rw [← HCR.out]
          simp [enc, HD.out]
        · have s1 := HC.out.size
          intro k' hk'
          rcases hk' with (hk' | hk') | hk'
          · exact .inl hk'
          · have := G.2.size
            exact .inr ⟨hk'.1, by omega⟩
          · exact .inr ⟨by omega, hk'.2⟩
        · intro k' hk'
          rcases hk' with hk' | hk'
          · have := HW.out.lt k' (.inl hk')
            have := G.2.size
            omega
          · exact hk'.2
      clear KW
      go_wp2_with fail
      go_region_law (refine step_append_at rfl (.tmp 33) (.tmp 38) 25 rfl 5 i0 (.int .u8 0) 1 1 Try.underlying25 hi0 hz0 hz1 hz2 rfl (by decide) (.slice x cur.length c) cur.length (cur.map (Value.int .u8)) (by simp [Act.eval]) HO.out ⟨wr.heap.size, 0, none⟩ 1 1 [.int .u8 (IntKind.u8.wrap (n / 2 ^ (8 * (k : Int)).toNat))] (by simp [Act.eval]) rfl HNw.out H1 (by unfold maxLen; omega) (by omega) ?_; intro v5 w5 o5 g5 n5; obtain ⟨a5, c5', rfl⟩ := owns_shape o5; obtain ⟨y1, y2, y3⟩ := HEnd.out _ _ o5 g5 n5)
      all_goals go_wp2
      all_goals go_roundw
      all_goals first | exact ⟨k, by omega, by go_num, y3⟩ | (simp [intOf]; omega)

end Go.Proofs.Ytlcbfdbnjohicaa.st
