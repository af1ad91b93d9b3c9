/- Contracts of the document's store: Sync, Peek. -/
import Derived.Test.YteehphmedmplkaaRtA
namespace Go.Proofs.Yteehphmedmplkaa.rt
open Go.ChangeShapes Go.WideShapes Go.ChangeAt Go.RowKit Go.Proofs.Yteehphmedmplkaa.hp Go.Proofs.Yteehphmedmplkaa.md Go.Proofs.Yteehphmedmplkaa.st
set_option linter.unusedVariables false

theorem rsync_fail {w : World} {q : Nat} {F : Nat → Prop} {m : Mod} {T : List Rec} (H : Rt w q F m T) (hops : m.ops ≤ 100000000) (hkp : m.kp.length ≤ 100000000000) (hf : m.fails = true) :
    Calls Try.prog 18 #[.pointer (some ⟨q, 0, none⟩)] w fun e w' => e = .returned (.int .i64 6) ∧ Rt w' q F m.began T ∧ Chg F w w' := by
  have HB := rbegin_any H hops hkp
  rw [hf] at HB
  clear hf H
  go_enter Try.func18, Try.ntmps18
  go_wp2_with fail
  refine HB.mono ?_
  rintro e w1 ⟨rfl, s1, k1, _⟩
  go_wp2
  go_ret
  exact ⟨rfl, s1, k1⟩

theorem news_at {w : World} {xs : List Value} {t : TypeId} : ∀ (j : Nat) (u : Value), xs[j]? = some u → (w.alloc (.cells xs.toArray t)).cell? ((⟨w.heap.size, 0, none⟩ : Addr).add j) = some u := by
  intro j u hu
  rw [Addr.add_lit, Nat.zero_add]
  exact (row_cell (heap_alloc_new w _) j u hu).1

set_option maxRecDepth 100000 in
set_option maxHeartbeats 4000000 in
theorem rsync_ok {w : World} {q : Nat} {F : Nat → Prop} {m : Mod} {T : List Rec} (H : Rt w q F m T) (hops : m.ops ≤ 100000000) (hkp : m.kp.length ≤ 100000000000) (hf : m.fails = false) :
    Calls Try.prog 18 #[.pointer (some ⟨q, 0, none⟩)] w fun e w' => e = .returned (.int .i64 0) ∧ Rt w' q (Wid F w w') m.began.sync (T ++ [⟨3, 0, .slice none 0 0, []⟩]) ∧ Chg F w w' := by
  have HB : Calls Try.prog 45 #[.pointer (some ⟨q, 0, none⟩)] w fun e w' => e = .returned (.bool true) ∧ Chg F w w' ∧ Rt1 w' q F m.began T :=
    (rbegin_any H hops hkp).mono fun e w' h => ⟨by have := h.1; rw [hf] at this; exact this, h.2.2.1, h.2.2.2 hf⟩
  have hob := began_ops m
  obtain ⟨M, hM⟩ : ∃ M, m.began = M := ⟨_, rfl⟩
  rw [hM] at HB hob ⊢
  clear hf hM H
  obtain ⟨i0, hi, hz0, hz1, hz2⟩ := info_parts info63
  go_enter Try.func18, Try.ntmps18
  go_wp2_with fail
  refine HB.mono ?_
  rintro e w1 ⟨rfl, k1, s1⟩
  obtain ⟨gc, I, b, A, K, vf, vk, vt, t, h, hbA, ht⟩ := s1
  obtain ⟨c0, c1, c2, c3, c4, c5, c6, c7, c8⟩ := h.cells
  obtain ⟨af, cf, hvf, hfly⟩ := h.flyAt
  subst hvf
  have hn := h.num
  have hqgc := h.pgc
  have hgcq : ¬ gc = q := fun e => h.pgc e.symm
  have hV : M.V.length ≤ 65536 := hn.2.2.2.1
  have hWb : M.W.length ≤ 1000000000 := by omega
  obtain ⟨n, hnn⟩ : ∃ n, n = M.W.length := ⟨_, rfl⟩
  rw [← hnn] at c7 hfly hWb
  have HN : Hid (n = M.W.length) := hnn
  have HF : Hid (∀ i, i < n → ∃ gf, af = some ⟨gf, 0, none⟩ ∧ gf ≠ q ∧ gf ≠ gc ∧ gf < w1.heap.size ∧ w1.cell? ⟨gf, i * 2, none⟩ = some (.int .i64 (M.W.getD i dW).1) ∧
      w1.cell? ⟨gf, i * 2 + 1, none⟩ = some (M.W.getD i dW).2.1 ∧ (M.W.getD i dW).1 < M.V.length ∧ Byt I w1 M.sz (M.W.getD i dW).2 ∧ Lies I w1 (M.W.getD i dW).2.1 ((M.W.getD i dW).2.2.map (Value.int .u8))) := hfly
  have HR : Hid (w1.heap[gc]? = some (.cells ((redo M.V M.W all 0).map (·.1)).toArray 31 (0, 0))) := h.row
  have HH : Hid (Rto w1 q gc F I M b A K (.slice af M.W.length cf) vk vt t T) := h
  have HBA : Hid (b = decide (M.arm ≠ 0) ∧ (M.arm ≠ 0 → A = M.arm ∧ K = M.kp)) := hbA
  have hq7 := h.free 7
  have hq8 := h.free 8
  have hql := h.lt q h.fp
  have htb : t ≤ 200000000 := by omega
  obtain ⟨xt, ct, hvt⟩ := owns_shape h.trc
  rw [hvt] at c8
  clear hnn hfly h hn hbA HB
  go_wp2_with fail
  go_loopw [3] (fun i wr => ∃ k : Nat, k ≤ n ∧ i = .int .i64 (k : Int) ∧ wr.heap[gc]? = some (.cells ((redo M.V M.W all k).map (·.1)).toArray 31 (0, 0)) ∧ Chg (fun k => k = gc) w1 wr) (fun i _ => n - (intOf i).toNat)
  case atStart => exact ⟨0, by omega, rfl, HR.out, Chg.refl _ _⟩
  case round =>
    obtain ⟨k, hk, rfl, hrw, C⟩ := hrel
    have e6 := C.cell c6 hqgc
    have e7 := C.cell c7 hqgc
    by_cases hkn : k < n
    · obtain ⟨gf, rfl, g1, g2, _, f0, f1, hlt, hby, _⟩ := HF.out k hkn
      have d0 := C.cell f0 g2
      have d1 := C.cell f1 g2
      obtain ⟨ax, al, ac, hAs⟩ := hby.slice
      obtain ⟨Ad, hA⟩ : ∃ A, (M.W.getD k dW).1 = A := ⟨_, rfl⟩
      rw [hAs] at d1
      rw [hA] at d0 hlt
      have hAl : (Ad : Int) < M.V.length := by omega
      have hknI : (k : Int) < n := by omega
      obtain ⟨u, hu⟩ : ∃ u, ((redo M.V M.W all k).map (·.1))[Ad]? = some u := by
        rw [List.getElem?_eq_getElem (by simp [redo_length]; omega)]; exact ⟨_, rfl⟩
      obtain ⟨x1, x2⟩ := row_cell hrw Ad u hu
      have HB : Hid ((wr.setCell ⟨gc, Ad, none⟩ (.slice ax al ac)).heap[gc]? = some (.cells ((redo M.V M.W all (k + 1)).map (·.1)).toArray 31 (0, 0))) := by
        have := row_set hrw Ad (.slice ax al ac)
        rw [redo_map_set _ _ _ _ rfl, hA, hAs]
        exact this
      have HC : Hid (Chg (fun k => k = gc) w1 (wr.setCell ⟨gc, Ad, none⟩ (.slice ax al ac))) := C.setCell _ _ (.inl rfl)
      clear f0 f1 hby hrw hu C
      go_wp2_with fail
      go_region
      all_goals go_wp2
      all_goals go_roundw
      case rel => exact ⟨k + 1, by omega, by go_num, HB.out, HC.out.drew⟩
      case measure => simp [intOf]; omega
    · obtain rfl : k = n := by omega
      have hkn' : (k : Int) ≤ k := by omega
      have hqb := C.block q hql hqgc
      have fz7 : wr.frozen? ⟨q, 7, none⟩ = false := (World.frozen?_of_block hqb).trans hq7
      have fz8 : wr.frozen? ⟨q, 8, none⟩ = false := (World.frozen?_of_block hqb).trans hq8
      have e8 := C.cell c8 hqgc
      have S2 := rto_sync HH.out C (by rw [← HN.out]; exact hrw)
      have C2 : Chg F w1 (wr.setCell ⟨q, 7, none⟩ (.slice none 0 0)) := HH.out.chgF ((C.mono fun k hk => .inl (.inl hk)).setCell _ _ (.inl (.inr rfl)))
      obtain ⟨X, hX⟩ : ∃ X, X = wr.setCell ⟨q, 7, none⟩ (.slice none 0 0) := ⟨_, rfl⟩
      have HS2 : Hid (Rto (wr.setCell ⟨q, 7, none⟩ (.slice none 0 0)) q gc F I M.sync b A K (.slice none 0 0) vk vt t T) := S2
      have HC2 : Hid (Chg F w1 (wr.setCell ⟨q, 7, none⟩ (.slice none 0 0))) := C2
      have HO : Hid (((wr.setCell ⟨q, 7, none⟩ (.slice none 0 0)).alloc (.cells #[.int .i64 3, .int .i64 0, .slice none 0 0] 64)).ownsRow 0 64 3 (.slice xt t ct) t (recs T)) := by
        have := S2.trc.alloc (.cells #[.int .i64 3, .int .i64 0, .slice none 0 0] 64)
        rwa [hvt] at this
      have HNw : Hid (∀ (j : Nat) (u : Value), ([.int .i64 3, .int .i64 0, .slice none 0 0] : List Value)[j]? = some u → ((wr.setCell ⟨q, 7, none⟩ (.slice none 0 0)).alloc (.cells #[.int .i64 3, .int .i64 0, .slice none 0 0] 64)).cell? ((⟨wr.heap.size, 0, none⟩ : Addr).add j) = some u) := by
        have := news_at (w := wr.setCell ⟨q, 7, none⟩ (.slice none 0 0)) (xs := [.int .i64 3, .int .i64 0, .slice none 0 0]) (t := 64)
        have e : (wr.setCell ⟨q, 7, none⟩ (.slice none 0 0)).heap.size = wr.heap.size := by simp
        rw [e] at this
        exact this
      have H1 : ∀ u ∈ ([.int .i64 3, .int .i64 0, .slice none 0 0] : List Value), u.oneCell' = true := by
        intro u hu
        simp at hu
        rcases hu with rfl | rfl | rfl <;> rfl
      clear S2 C2 hX hrw C
      go_wp2_with (at_builtin; refine wpList_append_at rfl _ _ 51 rfl 64 i0 (.agg #[.int .i64 0, .int .i64 0, .slice none 0 0]) 3 40 Try.underlying51 hi hz0 hz1 hz2 rfl (by decide) (.slice xt t ct) t (recs T) rfl HO.out ⟨wr.heap.size, 0, none⟩ 1 1 [.int .i64 3, .int .i64 0, .slice none 0 0] rfl rfl HNw.out H1 (by unfold maxLen; omega) (by omega) ?_)
      intro vt5 w5 o5 g5 n5
      obtain ⟨a5, c5', hv5⟩ := owns_shape o5
      subst hv5
      have RC := HS2.out.record (k := 3) (a := 0) (v := .slice none 0 0) (zs := []) ((Chg.refl no _).alloc _) (by rw [hvt]; exact g5) (.inl ⟨rfl, rfl⟩) o5 (by rw [hvt]; intro k hk; have := n5 k hk; simpa using this) ht
      have RE := rt_end (W' := w5.setCell ⟨q, 8, none⟩ (.slice a5 (t + 1) c5')) (k1.then HC2.out) ⟨gc, _, _, _, _, _, _, _, _, RC.1, HBA.out⟩ RC.2 (Chg.refl no _) rfl
      have HRE : Hid (Rt (w5.setCell ⟨q, 8, none⟩ (.slice a5 (t + 1) c5')) q (Wid F w (w5.setCell ⟨q, 8, none⟩ (.slice a5 (t + 1) c5'))) M.sync (T ++ [⟨3, 0, .slice none 0 0, []⟩]) ∧ Chg F w (w5.setCell ⟨q, 8, none⟩ (.slice a5 (t + 1) c5'))) := RE
      have hC5 : Chg (fun k => (Value.slice xt t ct).ownBlock = some k) (wr.setCell ⟨q, 7, none⟩ (.slice none 0 0)) w5 := (((Chg.refl no _).alloc _).of_no _).grown g5 (fun k hk => .inl hk)
      have n1 : ¬ (Value.slice xt t ct).ownBlock = some q := fun e => (HS2.out.tpg q (by rw [hvt]; exact e)).1 rfl
      have y8 := hC5.cell (a := ⟨q, 8, none⟩) (v := .slice xt t ct) (by have := HS2.out.cells.2.2.2.2.2.2.2.2; rwa [hvt] at this) n1
      have y9 : w5.frozen? ⟨q, 8, none⟩ = false := (World.frozen?_of_block (hC5.block q (HS2.out.lt q HS2.out.fp) n1)).trans (HS2.out.free 8)
      clear RC RE hC5 o5 g5
      go_wp2
      go_ret
      exact ⟨rfl, HRE.out⟩

def outOf (m : Mod) (i k : Nat) : List Int := ((redo m.V m.W all k).getD i dC).2

theorem outOf_step (m : Mod) (i k : Nat) (hi : i < m.V.length) : outOf m i (k + 1) = if (m.W.getD k dW).1 = i then (m.W.getD k dW).2.2 else outOf m i k := by
  unfold outOf
  have hl := redo_length m.V m.W all k
  have e : redo m.V m.W all (k + 1) = (redo m.V m.W all k).set (m.W.getD k dW).1 (m.W.getD k dW).2 := by rw [redo, if_pos (show all k = true from rfl)]
  rw [e, List.getD_eq_getElem?_getD, List.getElem?_set]
  by_cases h : (m.W.getD k dW).1 = i
  · rw [if_pos h, if_pos h, if_pos (by rw [h]; omega)]
    rfl
  · rw [if_neg h, if_neg h, List.getD_eq_getElem?_getD]

/-- What copy takes of a cell into a row of its size. -/
theorem byt_copy {I : Nat → Prop} {w : World} {sz : Nat} {c : Cell} (h : Byt I w sz c) :
    ∃ CS : List Value, CS.length ≤ sz ∧ splice ((madeCells #[Value.int .u8 0] sz).toList) 0 CS = c.2.map (Value.int .u8) ∧ (∀ u ∈ CS, u.oneCell' = true) ∧
      ∃ a k, c.1 = .slice a CS.length k ∧ (0 < CS.length → ∃ x, a = some x ∧ ∀ (j : Nat) (u : Value), CS[j]? = some u → w.cell? (x.add j) = some u) := by
  obtain ⟨hlen, hB⟩ := h
  rcases hB with ⟨h1, h2⟩ | ⟨h1, h2⟩ | ⟨x, k, h1, h2, h3⟩
  · refine ⟨[], by simp, ?_, by simp, _, _, h1, by simp⟩
    rw [splice_nil, h2]; simp
  · have : c.2 = [] := by simpa using h2
    refine ⟨[], by simp, ?_, by simp, _, _, h1, by simp⟩
    rw [splice_nil, h2]
    rw [this] at hlen
    simp at hlen
    rw [← hlen]; rfl
  · exact ⟨c.2.map (Value.int .u8), by simp [hlen], splice_all _ _ _ (by simp [hlen]), ints_oneCell _ _, _, _, h1, fun _ => ⟨x, rfl, h3⟩⟩

theorem splice_whole (xs zs : List Value) (h : zs.length = xs.length) : splice xs 0 zs = zs := by
  simp [splice, h]

theorem rpeek_out {w : World} {q : Nat} {F : Nat → Prop} {m : Mod} {T : List Rec} (h : Rt w q F m T) (a : Int) (hi : ¬ (0 ≤ a ∧ a < m.V.length)) :
    Calls Try.prog 30 #[.pointer (some ⟨q, 0, none⟩), .int .i64 a] w fun e w' => e = .returned (.slice none 0 0) ∧ w' = w := by
  obtain ⟨gc, I, b, A, K, vf, vk, vt, t, H, hb, hA⟩ := h
  obtain ⟨c0, c1, c2, c3, c4, c5, c6, c7, c8⟩ := H.cells
  have hc : a < 0 ∨ (0 ≤ a ∧ (m.V.length : Int) ≤ a) := by omega
  clear hi
  rcases hc with h1 | ⟨h1, h2⟩
  all_goals
    go_enter Try.func30, Try.ntmps30
    go_wp2
    go_ret
    exact ⟨rfl, rfl⟩

set_option maxRecDepth 100000 in
set_option maxHeartbeats 4000000 in
theorem rpeek_in {w : World} {q : Nat} {F : Nat → Prop} {m : Mod} {T : List Rec} (h : Rt w q F m T) (hops : m.ops ≤ 1000000000) (i : Nat) (hi : i < m.V.length) :
    Calls Try.prog 30 #[.pointer (some ⟨q, 0, none⟩), .int .i64 i] w fun e w' => e = .returned (.slice (some ⟨w.heap.size, 0, none⟩) m.sz m.sz) ∧
      w'.heap[w.heap.size]? = some (.cells ((m.now.getD i dC).2.map (Value.int .u8)).toArray 5 (0, 0)) ∧ Chg no w w' := by
  obtain ⟨gc, I, b, A, K, vf, vk, vt, t, H, hb, hA⟩ := h
  obtain ⟨i0, hi0, hz0, hz1, hz2⟩ := info_parts info5
  have hcs : (Try.prog.info? 5).map (·.size) = some 1 := by kernel_rfl
  obtain ⟨c0, c1, c2, c3, c4, c5, c6, c7, c8⟩ := H.cells
  have hn := H.num
  have hiI : (i : Int) < m.V.length := by omega
  have hVb : m.V.length ≤ 65536 := hn.2.2.2.1
  have hWb : m.W.length ≤ 1000000000 := by omega
  obtain ⟨d1, d2, hB⟩ := H.cellAt i hi
  obtain ⟨CS, hC1, hC2, hC3, a, c, hC4, hC5⟩ := byt_copy hB
  rw [hC4] at d1
  obtain ⟨af, cf, hvf, hfly⟩ := H.flyAt
  subst hvf
  have hnow : (m.now.getD i dC).2 = outOf m i m.W.length := rfl
  rw [hnow]
  have hstart : (m.V.getD i dC).2 = outOf m i 0 := rfl
  have hstep := fun k => outOf_step m i k hi
  have hlen0 : (outOf m i 0).length = m.sz := hB.1
  obtain ⟨sz, hsz⟩ : ∃ sz, m.sz = sz := ⟨_, rfl⟩
  obtain ⟨n, hnn⟩ : ∃ n, m.W.length = n := ⟨_, rfl⟩
  rw [hsz] at c0 hC1 hC2 hn hlen0 hfly ⊢
  rw [hnn] at c7 hfly hWb ⊢
  rw [hstart] at hC2
  have HS : Hid (splice ((madeCells #[Value.int .u8 0] sz).toList) 0 CS = (outOf m i 0).map (Value.int .u8)) := hC2
  have HP : Hid (0 < CS.length → ∃ x, a = some x ∧ ∀ (j : Nat) (u : Value), CS[j]? = some u → w.cell? (x.add j) = some u) := hC5
  have HF : Hid (∀ i, i < n → ∃ gf, af = some ⟨gf, 0, none⟩ ∧ gf ≠ q ∧ gf ≠ gc ∧ gf < w.heap.size ∧ w.cell? ⟨gf, i * 2, none⟩ = some (.int .i64 (m.W.getD i dW).1) ∧
      w.cell? ⟨gf, i * 2 + 1, none⟩ = some (m.W.getD i dW).2.1 ∧ (m.W.getD i dW).1 < m.V.length ∧ Byt I w sz (m.W.getD i dW).2 ∧ Lies I w (m.W.getD i dW).2.1 ((m.W.getD i dW).2.2.map (Value.int .u8))) := hfly
  have HST : Hid (∀ k, outOf m i (k + 1) = if (m.W.getD k dW).1 = i then (m.W.getD k dW).2.2 else outOf m i k) := hstep
  have HL0 : Hid ((outOf m i 0).length = sz) := hlen0
  clear hC2 hC5 hB hC4 hfly hstep hnow hstart hlen0 H hb hA hi hsz hnn
  go_enter Try.func30, Try.ntmps30
  go_wp2_with (at_make; refine wpList_make_full _ rfl _ _ 31 rfl w.heap.size 5 i0 (.int .u8 0) 1 Try.underlying31 hi0 hz0 hz1 .i64 .i64 sz sz sz rfl rfl rfl rfl ?c1 ?c2 ?c3 ?_)
  case c1 => rw [hz2]; omega
  case c2 => unfold maxLen; omega
  case c3 => omega
  intro w1 hown hg
  have k1 : Chg no w w1 := (Chg.refl no w).grown hg (by simp)
  have e6 := k1.cell c6 id
  have e1 := k1.cell d1 id
  have G : Hid (w1.heap[w.heap.size]? = some (.cells ((madeCells #[Value.int .u8 0] sz).toList).toArray 5 (0, 0))) := (row_whole hown).1
  have HP1 : Hid (0 < CS.length → some (⟨w.heap.size, 0, none⟩ : Addr) = some ⟨w.heap.size, 0, none⟩ ∧ ∃ ad, a = some ad ∧ ∀ (j : Nat) (u : Value), CS[j]? = some u → w1.cell? (ad.add j) = some u) := by
    intro h0
    obtain ⟨x, hx, hc⟩ := HP.out h0
    exact ⟨rfl, x, hx, fun j u hu => k1.cell (hc j u hu) id⟩
  clear hown
  go_wp2_with (refine wpList_copy_splice rfl (.tmp 23) (.tmp 30) 31 31 rfl 5 Try.underlying31 hcs _ _ _ _ _ _ rfl rfl w.heap.size 0 (madeCells #[Value.int .u8 0] sz).toList 5 G.out CS (by simp only [Nat.min_def]; split <;> omega) HP1.out (by simp [toList_madeCells_one]; omega) hC3 w.heap.size _ (Below.refl _ _) (Nat.le_refl _) ?_; intro w3 G3 B3)
  have G4 := G3.out
  rw [HS.out] at G4
  have K3 : Chg no w w3 := k1.blocked B3 (Nat.le_refl _)
  clear G3 B3 G HP1 e6 e1 k1 hg HS HP
  go_wp2_with fail
  go_loopw [6] (fun j wr => ∃ k : Nat, k ≤ n ∧ j = .int .i64 (k : Int) ∧ (outOf m i k).length = sz ∧ wr.heap[w.heap.size]? = some (.cells ((outOf m i k).map (Value.int .u8)).toArray 5 (0, 0)) ∧ Chg no w wr) (fun j _ => n - (intOf j).toNat)
  case atStart => exact ⟨0, by omega, rfl, HL0.out, G4, K3⟩
  case round =>
    clear G4 K3
    obtain ⟨k, hk, rfl, hl, hg, C⟩ := hrel
    have e7 := C.cell c7 id
    by_cases hkn : k < n
    · have hkni : (k : Int) < n := by omega
      obtain ⟨gf, rfl, g1, g2, g3, f0, f1, hlt, hby, hli⟩ := HF.out k hkn
      have d0 := C.cell f0 id
      have d1' := C.cell f1 id
      have hLi := hli.chg C (fun _ _ h => h)
      have hbl := hby.1
      obtain ⟨Ad, hA⟩ : ∃ A, (m.W.getD k dW).1 = A := ⟨_, rfl⟩
      obtain ⟨Cb, hCb⟩ : ∃ A, (m.W.getD k dW).2 = A := ⟨_, rfl⟩
      have hst := HST.out k
      rw [hA, hCb] at hst
      rw [hA] at d0
      rw [hCb] at d1' hLi hbl
      obtain ⟨av, cv, hvv, hcell⟩ := hLi.slice
      rw [hvv] at d1'
      simp only [List.length_map, hbl] at d1'
      by_cases hAi : Ad = i
      · have hAii : (Ad : Int) = i := by omega
        rw [if_pos hAi] at hst
        have HG : Hid (wr.heap[w.heap.size]? = some (.cells ((outOf m i k).map (Value.int .u8)).toArray 5 (0, 0))) := hg
        have HC5 : Hid (0 < (Cb.2.map (Value.int .u8)).length → some (⟨w.heap.size, 0, none⟩ : Addr) = some ⟨w.heap.size, 0, none⟩ ∧ ∃ ad, av = some ad ∧ ∀ (j : Nat) (u : Value), (Cb.2.map (Value.int .u8))[j]? = some u → wr.cell? (ad.add j) = some u) := by
          intro h0
          obtain ⟨x, hx, _⟩ := hcell 0 _ (List.getElem?_eq_getElem h0)
          refine ⟨rfl, x, hx, fun j u hu => ?_⟩
          obtain ⟨x', hx', _, hc'⟩ := hcell j u hu
          rw [hx] at hx'
          cases hx'
          exact hc'
        have HLL : Hid ((Cb.2.map (Value.int .u8)).length = sz ∧ ((outOf m i k).map (Value.int .u8)).length = sz) := ⟨by simp [hbl], by simp [hl]⟩
        have HSP : Hid (splice ((outOf m i k).map (Value.int .u8)) 0 (Cb.2.map (Value.int .u8)) = (outOf m i (k + 1)).map (Value.int .u8)) := by
          show splice ((outOf m i k).map (Value.int .u8)) 0 (Cb.2.map (Value.int .u8)) = (outOf m i (k + 1)).map (Value.int .u8)
          rw [splice_whole _ _ (by simp [hbl, hl]), hst]
        have HLN : Hid ((outOf m i (k + 1)).length = sz) := by
          show (outOf m i (k + 1)).length = sz
          rw [hst]; exact hbl
        clear hg hcell hvv hLi hl hst hby hli f0 f1 hbl
        go_wp2_with (refine wpList_copy_splice rfl (.tmp 51) (.tmp 59) 31 31 rfl 5 Try.underlying31 hcs _ _ _ _ _ _ rfl rfl w.heap.size 0 ((outOf m i k).map (Value.int .u8)) 5 HG.out (Cb.2.map (Value.int .u8)) (by rw [HLL.out.1]; simp) HC5.out (by rw [HLL.out.1, HLL.out.2]; omega) (ints_oneCell _ _) w.heap.size _ (Below.refl _ _) (Nat.le_refl _) ?_; intro w5 G5 B5)
        go_roundw
        case rel =>
          have G6 := G5.out
          rw [HSP.out] at G6
          exact ⟨k + 1, by omega, by go_num, HLN.out, G6, C.blocked B5 (Nat.le_refl _)⟩
        case measure => simp [intOf]; omega
      · have hAii : ¬ (Ad : Int) = i := by omega
        rw [if_neg hAi] at hst
        have HG : Hid ((outOf m i (k + 1)).length = sz ∧ wr.heap[w.heap.size]? = some (.cells ((outOf m i (k + 1)).map (Value.int .u8)).toArray 5 (0, 0))) := by rw [hst]; exact ⟨hl, hg⟩
        clear hg hcell hvv hLi hl hst hby hli f0 f1 hbl
        go_wp2
        go_roundw
        case rel => exact ⟨k + 1, by omega, by go_num, HG.out.1, HG.out.2, C⟩
        case measure => simp [intOf]; omega
    · obtain rfl : k = n := by omega
      have hkni : (k : Int) ≤ k := by omega
      go_wp2
      go_ret
      exact ⟨rfl, hg, C⟩

end Go.Proofs.Yteehphmedmplkaa.rt
