/- Contracts of the document's store: Read, Write. -/
import Derived.Test.YteehphmedmplkaaRtB
import Derived.Deep.Cut
import Derived.Deep.CutRange
namespace Go.Proofs.Yteehphmedmplkaa.rt
open Go.ChangeShapes Go.WideShapes Go.ChangeAt Go.RowKit Go.Proofs.Yteehphmedmplkaa.hp Go.Proofs.Yteehphmedmplkaa.md Go.Proofs.Yteehphmedmplkaa.st
set_option linter.unusedVariables false

theorem rbegin_ok {w : World} {q : Nat} {F : Nat → Prop} {m : Mod} {T : List Rec} (H : Rt w q F m T) (hops : m.ops ≤ 100000000) (hkp : m.kp.length ≤ 100000000000) (hf : m.fails = false) :
    Calls Try.prog 45 #[.pointer (some ⟨q, 0, none⟩)] w fun e w' => e = .returned (.bool true) ∧ Chg F w w' ∧ Rt1 w' q F m.began T :=
  (rbegin_any H hops hkp).mono fun e w' h => ⟨by have := h.1; rw [hf] at this; exact this, h.2.2.1, h.2.2.2 hf⟩

theorem rbegin_fail {w : World} {q : Nat} {F : Nat → Prop} {m : Mod} {T : List Rec} (H : Rt w q F m T) (hops : m.ops ≤ 100000000) (hkp : m.kp.length ≤ 100000000000) (hf : m.fails = true) :
    Calls Try.prog 45 #[.pointer (some ⟨q, 0, none⟩)] w fun e w' => e = .returned (.bool false) ∧ Rt w' q F m.began T ∧ Chg F w w' :=
  (rbegin_any H hops hkp).mono fun e w' h => ⟨by have := h.1; rw [hf] at this; exact this, h.2.1, h.2.2.1⟩

theorem Rt1.rt {w : World} {q : Nat} {F : Nat → Prop} {m : Mod} {T : List Rec} (h : Rt1 w q F m T) : Rt w q F m T := by
  obtain ⟨gc, I, b, A, K, vf, vk, vt, t, h, hbA, ht⟩ := h
  exact ⟨gc, I, b, A, K, vf, vk, vt, t, h, hbA⟩

theorem rread_fail {w : World} {q : Nat} {F : Nat → Prop} {m : Mod} {T : List Rec} (H : Rt w q F m T) (hops : m.ops ≤ 100000000) (hkp : m.kp.length ≤ 100000000000) (hf : m.fails = true) (a : Int) :
    Calls Try.prog 13 #[.pointer (some ⟨q, 0, none⟩), .int .i64 a] w fun e w' => e = .returned (.tuple #[.slice none 0 0, .int .i64 6]) ∧ Rt w' q F m.began T ∧ Chg F w w' := by
  have HB := rbegin_fail H hops hkp hf
  clear hf H
  go_enter Try.func13, Try.ntmps13
  go_wp2_with fail
  refine HB.mono ?_
  rintro e w1 ⟨rfl, s1, k1⟩
  go_wp2
  go_ret2
  exact ⟨rfl, s1, k1⟩

theorem rread_out {w : World} {q : Nat} {F : Nat → Prop} {m : Mod} {T : List Rec} (H : Rt w q F m T) (hops : m.ops ≤ 100000000) (hkp : m.kp.length ≤ 100000000000) (hf : m.fails = false) (a : Int) (ha : ¬ (0 ≤ a ∧ a < m.V.length)) :
    Calls Try.prog 13 #[.pointer (some ⟨q, 0, none⟩), .int .i64 a] w fun e w' => e = .returned (.tuple #[.slice none 0 0, .int .i64 1]) ∧ Rt w' q F m.began T ∧ Chg F w w' := by
  have HB := rbegin_ok H hops hkp hf
  have hV := (began_sz m).2
  have hc : a < 0 ∨ (0 ≤ a ∧ (m.began.V.length : Int) ≤ a) := by omega
  clear hf H ha
  rcases hc with h1 | ⟨h1, h2⟩
  all_goals
    go_enter Try.func13, Try.ntmps13
    go_wp2_with fail
    refine HB.mono ?_
    rintro e w1 ⟨rfl, k1, s1⟩
    have S1 : Hid (Rt w1 q F m.began T) := s1.rt
    obtain ⟨gc, I, b, A, K, vf, vk, vt, t, h, hbA, ht⟩ := s1
    obtain ⟨c0, c1, c2, c3, c4, c5, c6, c7, c8⟩ := h.cells
    clear h hbA ht HB
    go_wp2
    go_ret2
    exact ⟨rfl, S1.out, k1⟩

set_option maxRecDepth 100000 in
set_option maxHeartbeats 8000000 in
theorem rread_in {w : World} {q : Nat} {F : Nat → Prop} {m : Mod} {T : List Rec} (H : Rt w q F m T) (hops : m.ops ≤ 100000000) (hkp : m.kp.length ≤ 100000000000) (hf : m.fails = false) (a : Nat) (ha : a < m.V.length) :
    Calls Try.prog 13 #[.pointer (some ⟨q, 0, none⟩), .int .i64 a] w fun e w' => ∃ g v', e = .returned (.tuple #[.slice (some ⟨g, 0, none⟩) m.sz m.sz, .int .i64 0]) ∧ w.heap.size ≤ g ∧
      w'.heap[g]? = some (.cells ((m.now.getD a dC).2.map (Value.int .u8)).toArray 5 (0, 0)) ∧ Rt w' q (Wid F w w') m.began (T ++ [⟨1, a, v', (m.now.getD a dC).2⟩]) ∧ Chg F w w' := by
  have HB := rbegin_ok H hops hkp hf
  have hob := began_ops m
  have hV := (began_sz m).2
  have hsz := (began_sz m).1
  have hnw := (began_view m hf).2.2.2
  obtain ⟨M, hM⟩ : ∃ M, m.began = M := ⟨_, rfl⟩
  rw [hM] at HB hob hV hsz hnw ⊢
  rw [← hnw, ← hsz]
  rw [← hV] at ha
  clear hf hM H hV hsz hnw
  have hai : (a : Int) < M.V.length := by omega
  have ha0 : (0 : Int) ≤ a := by omega
  obtain ⟨i0, hi, hz0, hz1, hz2⟩ := info_parts info63
  obtain ⟨BS, hBS⟩ : ∃ BS, (M.now.getD a dC).2 = BS := ⟨_, rfl⟩
  rw [hBS]
  go_enter Try.func13, Try.ntmps13
  go_wp2_with fail
  refine HB.mono ?_
  rintro e w1 ⟨rfl, k1, s1⟩
  have PK := rpeek_in s1.rt (by omega) a ha
  obtain ⟨gc, I, b, A, K, vf, vk, vt, t, h, hbA, ht⟩ := s1
  obtain ⟨c0, c1, c2, c3, c4, c5, c6, c7, c8⟩ := h.cells
  have hn := h.num
  rw [hBS] at PK
  have hV2 : M.V.length ≤ 65536 := hn.2.2.2.1
  have hsz2 : M.sz ≤ 4096 := hn.2.1
  have htb : t ≤ 200000000 := by omega
  obtain ⟨xt, ct, hvt⟩ := owns_shape h.trc
  subst hvt
  have HH : Hid (Rto w1 q gc F I M b A K vf vk (.slice xt t ct) t T) := h
  have HBA : Hid (b = decide (M.arm ≠ 0) ∧ (M.arm ≠ 0 → A = M.arm ∧ K = M.kp)) := hbA
  have HT : Hid (t + 1 ≤ M.ops) := ht
  have hql := h.lt q h.fp
  have hf8 := h.free 8
  have HBL : Hid (BS.length = M.sz) := by
    show BS.length = M.sz
    rw [← hBS]
    have hl := redo_length M.V M.W all M.W.length
    have hm : M.now.getD a dC ∈ M.now := by
      rw [List.getD_eq_getElem?_getD, List.getElem?_eq_getElem (by unfold Mod.now; omega)]
      exact List.getElem_mem _
    rcases redo_mem _ _ _ _ (Nat.le_refl _) _ hm with hc | ⟨y, hy, he⟩
    · exact (h.bytV _ hc).1
    · rw [← he]; exact (h.bytW _ hy).1
  clear HB h hn hbA hBS ht
  go_wp2_with fail
  refine PK.mono ?_
  rintro e w2 ⟨rfl, g2, k2⟩
  have HK2 : Hid (Chg no w1 w2) := k2
  have e8 := k2.cell c8 id
  have f8 : w2.frozen? ⟨q, 8, none⟩ = false := (World.frozen?_of_block (k2.block q hql id)).trans hf8
  have hq2 : q < w2.heap.size := Nat.lt_of_lt_of_le hql k2.size
  have HG2 : Hid (w2.heap[w1.heap.size]? = some (.cells (BS.map (Value.int .u8)).toArray 5 (0, 0))) := g2
  have HL : Hid (∀ w', Chg no w2 w' → Lies (fun k => k = w1.heap.size) w' (.slice (some ⟨w1.heap.size, 0, none⟩) M.sz M.sz) (BS.map (Value.int .u8))) := by
    intro w' c
    have := lies_block g2 M.sz
    rw [List.length_map, HBL.out] at this
    exact this.chg c (fun _ _ h => h)
  have hbl : BS.length ≤ 100000 := by have := HBL.out; omega
  have HE : Hid (∀ w3 a3 c3, w3.ownsRow w2.heap.size 5 1 (.slice a3 BS.length c3) BS.length (BS.map (Value.int .u8)) → Chg no w2 w3 → 
      w3.cell? ⟨q, 8, none⟩ = some (.slice xt t ct) ∧ q < w3.heap.size ∧ (w3.alloc (.cells #[.int .i64 1, .int .i64 a, .slice a3 BS.length c3] 64)).ownsRow 0 64 3 (.slice xt t ct) t (recs T) ∧
      (∀ (j : Nat) (u : Value), ([.int .i64 1, .int .i64 a, .slice a3 BS.length c3] : List Value)[j]? = some u → (w3.alloc (.cells #[.int .i64 1, .int .i64 a, .slice a3 BS.length c3] 64)).cell? ((⟨w3.heap.size, 0, none⟩ : Addr).add j) = some u) ∧
      ∀ v5 w5, w5.ownsRow 0 64 3 v5 (t + 1) (recs T ++ [.int .i64 1, .int .i64 a, .slice a3 BS.length c3]) → (w3.alloc (.cells #[.int .i64 1, .int .i64 a, .slice a3 BS.length c3] 64)).grownBy w5 (Value.slice xt t ct).ownBlock → (∀ k, v5.ownBlock = some k → (Value.slice xt t ct).ownBlock = some k ∨ (w3.alloc (.cells #[.int .i64 1, .int .i64 a, .slice a3 BS.length c3] 64)).heap.size ≤ k) →
        w5.cell? ⟨q, 8, none⟩ = some (.slice xt t ct) ∧ w5.frozen? ⟨q, 8, none⟩ = false ∧ (∃ v', Rt (w5.setCell ⟨q, 8, none⟩ v5) q (Wid F w (w5.setCell ⟨q, 8, none⟩ v5)) M (T ++ [⟨1, a, v', BS⟩])) ∧ Chg F w (w5.setCell ⟨q, 8, none⟩ v5) ∧ (w5.setCell ⟨q, 8, none⟩ v5).heap[w1.heap.size]? = some (.cells (BS.map (Value.int .u8)).toArray 5 (0, 0))) := by
    intro w3 a3 c3 o3 k3
    have kk := (HK2.out.then k3).alloc (.cells #[.int .i64 1, .int .i64 a, .slice a3 BS.length c3] 64)
    have h3 := HH.out.chg kk (fun _ _ h => h)
    refine ⟨k3.cell e8 id, Nat.lt_of_lt_of_le hq2 k3.size, h3.trc, news_at (xs := [.int .i64 1, .int .i64 a, .slice a3 BS.length c3]), fun v5 w5 o5 g5 n5 => ?_⟩
    have RC := HH.out.record (k := 1) (a := a) (v := .slice a3 BS.length c3) (zs := BS) kk g5 ((Lies.of_owns o3 (fun k hk => ⟨Nat.le_trans HK2.out.size (o3.lt k hk).1, (o3.lt k hk).2⟩) : Lies (fun k => w1.heap.size ≤ k ∧ k < w3.heap.size) w3 _ _) |>.chg ((Chg.refl no w3).alloc _) (fun _ _ h => h) |>.mono (fun k hk => ⟨hk.1, by simp; omega⟩)) o5 n5 HT.out
    have RE := rt_end (W' := w5.setCell ⟨q, 8, none⟩ v5) k1 ⟨gc, _, _, _, _, _, _, _, _, RC.1, HBA.out⟩ RC.2 (Chg.refl no _) rfl
    have hC5 : Chg (fun k => (Value.slice xt t ct).ownBlock = some k) w1 w5 := (kk.of_no _).grown g5 (fun k hk => .inl hk)
    have n1 : ¬ (Value.slice xt t ct).ownBlock = some q := fun e => (HH.out.tpg q e).1 rfl
    have hC6 : Chg (fun k => (Value.slice xt t ct).ownBlock = some k) w2 w5 := (((k3.alloc _).of_no _)).grown g5 (fun k hk => .inl hk)
    refine ⟨hC5.cell c8 n1, (World.frozen?_of_block (hC5.block q hql n1)).trans hf8, ⟨_, RE.1⟩, RE.2, ?_⟩
    rw [Below.heap_setCell _ _ _ _ (by simp; omega)]
    exact hC6.heap HG2.out (fun e => by have := HH.out.lt _ (HH.out.tpg _ e).2.2.2.1; omega)
  have H1 : ∀ (a3 : Option Addr) (c3 : Nat), ∀ u ∈ ([.int .i64 1, .int .i64 a, .slice a3 BS.length c3] : List Value), u.oneCell' = true := by
    intro a3 c3 u hu
    simp at hu
    rcases hu with rfl | rfl | rfl <;> rfl
  clear g2 PK
  go_wp2_with fail
  go_region_law (first
    | (refine step_append_at rfl (.tmp 28) (.tmp 33) 51 rfl 64 i0 (.agg #[.int .i64 0, .int .i64 0, .slice none 0 0]) 3 40 Try.underlying51 hi hz0 hz1 hz2 rfl (by decide) (.slice xt t ct) t (recs T) (by simp [Act.eval]) HO.out ⟨w3.heap.size, 0, none⟩ 1 1 [.int .i64 1, .int .i64 a, .slice a3 BS.length c3] (by simp [Act.eval]) rfl HNw.out (H1 a3 c3) (by unfold maxLen; omega) (by omega) ?_; intro v5 w5 o5 g5 n5; obtain ⟨a5, c5', rfl⟩ := owns_shape o5; obtain ⟨y1, y2, y3, y4, y5⟩ := HEnd.out _ _ o5 g5 n5)
    | (refine step_call rfl 46 #[.slice (some ⟨w1.heap.size, 0, none⟩) M.sz M.sz] (by go_simp) (copyBytes_any _ BS _ _ (HL.out _ (Chg.refl no _).drew) hbl) ?_; rintro e w3 ⟨v3, rfl, o3, k3⟩; obtain ⟨a3, c3, rfl⟩ := owns_shape o3; obtain ⟨x1, x2, x3, x4, x5⟩ := HE.out w3 a3 c3 o3 ((Chg.refl no w2).drew.then k3); have HO : Hid _ := x3; have HNw : Hid _ := x4; have HEnd : Hid _ := x5; clear x3 x4 x5; refine ⟨_, rfl, ?_⟩))
  all_goals go_wp2
  all_goals go_ret2
  all_goals (obtain ⟨v9, y9⟩ := y3; exact ⟨w1.heap.size, v9, rfl, k1.size, y5, y9, y4⟩)

end Go.Proofs.Yteehphmedmplkaa.rt
