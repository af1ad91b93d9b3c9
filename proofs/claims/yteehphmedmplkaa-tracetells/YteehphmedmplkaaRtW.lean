/- Contracts of the document's store: Write. -/
import Derived.Test.YteehphmedmplkaaRtD
namespace Go.Proofs.Yteehphmedmplkaa.rt
open Go.ChangeShapes Go.WideShapes Go.ChangeAt Go.RowKit Go.Proofs.Yteehphmedmplkaa.hp Go.Proofs.Yteehphmedmplkaa.md Go.Proofs.Yteehphmedmplkaa.st
set_option linter.unusedVariables false

theorem rwrite_fail {w : World} {q : Nat} {F : Nat → Prop} {m : Mod} {T : List Rec} (H : Rt w q F m T) (hops : m.ops ≤ 100000000) (hkp : m.kp.length ≤ 100000000000) (hf : m.fails = true) (a : Int) (x : Option Addr) (l c : Nat) :
    Calls Try.prog 16 #[.pointer (some ⟨q, 0, none⟩), .int .i64 a, .slice x l c] w fun e w' => e = .returned (.int .i64 6) ∧ Rt w' q F m.began T ∧ Chg F w w' := by
  have HB := rbegin_fail H hops hkp hf
  clear hf H
  go_enter Try.func16, Try.ntmps16
  go_wp2_with fail
  refine HB.mono ?_
  rintro e w1 ⟨rfl, s1, k1⟩
  go_wp2
  go_ret
  exact ⟨rfl, s1, k1⟩

theorem rwrite_out {w : World} {q : Nat} {F : Nat → Prop} {m : Mod} {T : List Rec} (H : Rt w q F m T) (hops : m.ops ≤ 100000000) (hkp : m.kp.length ≤ 100000000000) (hf : m.fails = false) (a : Int) (ha : ¬ (0 ≤ a ∧ a < m.V.length)) (x : Option Addr) (l c : Nat) :
    Calls Try.prog 16 #[.pointer (some ⟨q, 0, none⟩), .int .i64 a, .slice x l c] w fun e w' => e = .returned (.int .i64 1) ∧ Rt w' q F m.began T ∧ Chg F w w' := by
  have HB := rbegin_ok H hops hkp hf
  have hV := (began_sz m).2
  have hc : a < 0 ∨ (0 ≤ a ∧ (m.began.V.length : Int) ≤ a) := by omega
  clear hf H ha
  rcases hc with h1 | ⟨h1, h2⟩
  all_goals
    go_enter Try.func16, Try.ntmps16
    go_wp2_with fail
    refine HB.mono ?_
    rintro e w1 ⟨rfl, k1, s1⟩
    have S1 : Hid (Rt w1 q F m.began T) := s1.rt
    obtain ⟨gc, I, b, A, K, vf, vk, vt, t, h, hbA, ht⟩ := s1
    obtain ⟨c0, c1, c2, c3, c4, c5, c6, c7, c8⟩ := h.cells
    clear h hbA ht HB
    go_wp2
    go_ret
    exact ⟨rfl, S1.out, k1⟩

theorem rwrite_form {w : World} {q : Nat} {F : Nat → Prop} {m : Mod} {T : List Rec} (H : Rt w q F m T) (hops : m.ops ≤ 100000000) (hkp : m.kp.length ≤ 100000000000) (hf : m.fails = false) (a : Int) (ha : 0 ≤ a ∧ a < m.V.length) (x : Option Addr) (l c : Nat) (hl : l ≠ m.sz) :
    Calls Try.prog 16 #[.pointer (some ⟨q, 0, none⟩), .int .i64 a, .slice x l c] w fun e w' => e = .returned (.int .i64 2) ∧ Rt w' q F m.began T ∧ Chg F w w' := by
  have HB := rbegin_ok H hops hkp hf
  have hV := (began_sz m).2
  have hsz := (began_sz m).1
  have h1 : (0 : Int) ≤ a := ha.1
  have h2 : a < (m.began.V.length : Int) := by omega
  have h3 : ¬ ((l : Int) = m.began.sz) := by omega
  clear hf H ha hV hsz hl
  go_enter Try.func16, Try.ntmps16
  go_wp2_with fail
  refine HB.mono ?_
  rintro e w1 ⟨rfl, k1, s1⟩
  have S1 : Hid (Rt w1 q F m.began T) := s1.rt
  obtain ⟨gc, I, b, A, K, vf, vk, vt, t, h, hbA, ht⟩ := s1
  obtain ⟨c0, c1, c2, c3, c4, c5, c6, c7, c8⟩ := h.cells
  clear h hbA ht HB
  go_wp2
  go_ret
  exact ⟨rfl, S1.out, k1⟩

theorem rt_end2 {w w1 wc X : World} {q : Nat} {F : Nat → Prop} {M : Mod} {T : List Rec} (k1 : Chg F w w1) (c1 : Chg F w1 wc) (S : Rt X q (Wid (Wid F w1 wc) wc X) M T) (c : Chg (Wid F w1 wc) wc X) : Rt X q (Wid F w X) M T ∧ Chg F w X := by
  have z1 := k1.size
  have z2 := c1.size
  have z3 := c.size
  refine ⟨S.wide ?_ ?_, (k1.then c1).trans c ?_⟩
  · intro k hk
    rcases hk with (hk | hk) | hk
    · exact .inl hk
    · exact .inr ⟨by omega, by omega⟩
    · exact .inr ⟨by omega, by omega⟩
  · intro k hk
    rcases hk with hk | hk
    · exact S.lt k (.inl (.inl hk))
    · exact hk.2
  · intro k hk
    rcases hk with hk | hk
    · exact .inl hk
    · exact .inr (by omega)

set_option maxRecDepth 100000 in
set_option maxHeartbeats 8000000 in
theorem rwrite_ok {w : World} {q : Nat} {F J : Nat → Prop} {m : Mod} {T : List Rec} (H : Rt w q F m T) (hops : m.ops ≤ 100000000) (hkp : m.kp.length ≤ 100000000000) (hf : m.fails = false) (a : Nat) (ha : a < m.V.length) (v : Value) (zs : List Int) (hz : zs.length = m.sz) (hv : Lies J w v (zs.map (Value.int .u8))) (hJ : ∀ k, J k → ¬ F k ∧ k < w.heap.size) :
    Calls Try.prog 16 #[.pointer (some ⟨q, 0, none⟩), .int .i64 a, v] w fun e w' => ∃ v' v2, e = .returned (.int .i64 0) ∧ Rt w' q (Wid F w w') (Mod.put m.began (a, v', zs)) (T ++ [⟨2, a, v2, zs⟩]) ∧ Chg F w w' := by
  have HB := rbegin_ok H hops hkp hf
  have hob := began_ops m
  have hV := (began_sz m).2
  have hsz := (began_sz m).1
  have hW : m.W.length ≤ m.ops := by obtain ⟨gc, I, b, A, K, vf, vk, vt, t, h, _⟩ := H; exact h.num.2.2.2.2.1
  have hWo : m.began.W.length + 1 ≤ m.began.ops := by rw [(began_ok m hf).1]; simpa using hW
  obtain ⟨M, hM⟩ : ∃ M, m.began = M := ⟨_, rfl⟩
  rw [hM] at HB hob hV hsz hWo ⊢
  rw [← hsz] at hz
  rw [← hV] at ha
  obtain ⟨av, cv, hvv, _⟩ := hv.slice
  simp only [List.length_map, hz] at hvv
  subst hvv
  clear hf hM H hV hsz hW
  have hai : (a : Int) < M.V.length := by omega
  have ha0 : (0 : Int) ≤ a := by omega
  obtain ⟨i0, hi, hz0, hz1, hz2⟩ := info_parts info63
  obtain ⟨j0, hj, hy0, hy1, hy2⟩ := info_parts info67
  go_enter Try.func16, Try.ntmps16
  go_wp2_with fail
  refine HB.mono ?_
  rintro e w1 ⟨rfl, k1, s1⟩
  obtain ⟨gc, I, b, A, K, vf, vk, vt, t, h, hbA, ht⟩ := s1
  obtain ⟨c0, c1, c2, c3, c4, c5, c6, c7, c8⟩ := h.cells
  have hn := h.num
  have hV2 : M.V.length ≤ 65536 := hn.2.2.2.1
  have hsz2 : M.sz ≤ 4096 := hn.2.1
  have htb : t ≤ 200000000 := by omega
  have hWb : M.W.length ≤ 200000000 := by omega
  obtain ⟨xt, ct, hvt⟩ := owns_shape h.trc
  subst hvt
  obtain ⟨xf, cf, hvf⟩ := owns_shape h.fly
  subst hvf
  have HH : Hid (Rto w1 q gc F I M b A K (.slice xf M.W.length cf) vk (.slice xt t ct) t T) := h
  have HBA : Hid (b = decide (M.arm ≠ 0) ∧ (M.arm ≠ 0 → A = M.arm ∧ K = M.kp)) := hbA
  have HT : Hid (t + 1 ≤ M.ops) := ht
  have HWO : Hid (M.W.length + 1 ≤ M.ops) := hWo
  have HZ : Hid (zs.length = M.sz) := hz
  have hql := h.lt q h.fp
  have hf8 := h.free 8
  have hf7 := h.free 7
  have hv1 := hv.chg k1 (fun k hk => (hJ k hk).1)
  have hzb : zs.length ≤ 100000 := by omega
  have HL : Hid (∀ w', Chg no w1 w' → Lies J w' (.slice av M.sz cv) (zs.map (Value.int .u8))) := fun w' c => hv1.chg c (fun _ _ h => h)
  have HJ : Hid (∀ k, J k → k < w1.heap.size ∧ ¬ F k) := fun k hk => ⟨Nat.lt_of_lt_of_le (hJ k hk).2 k1.size, (hJ k hk).1⟩
  have HE : Hid (∀ w3 a3 c3, w3.ownsRow w1.heap.size 5 1 (.slice a3 zs.length c3) zs.length (zs.map (Value.int .u8)) → Chg no w1 w3 → 
      w3.cell? ⟨q, 7, none⟩ = some (.slice xf M.W.length cf) ∧ q < w3.heap.size ∧ (w3.alloc (.cells #[.int .i64 a, .slice a3 zs.length c3] 79)).ownsRow 0 79 2 (.slice xf M.W.length cf) M.W.length (pairs M.W) ∧
      (∀ (j : Nat) (u : Value), ([.int .i64 a, .slice a3 zs.length c3] : List Value)[j]? = some u → (w3.alloc (.cells #[.int .i64 a, .slice a3 zs.length c3] 79)).cell? ((⟨w3.heap.size, 0, none⟩ : Addr).add j) = some u) ∧
      ∀ v5 w5, w5.ownsRow 0 79 2 v5 (M.W.length + 1) (pairs M.W ++ [.int .i64 a, .slice a3 zs.length c3]) → (w3.alloc (.cells #[.int .i64 a, .slice a3 zs.length c3] 79)).grownBy w5 (Value.slice xf M.W.length cf).ownBlock → (∀ k, v5.ownBlock = some k → (Value.slice xf M.W.length cf).ownBlock = some k ∨ (w3.alloc (.cells #[.int .i64 a, .slice a3 zs.length c3] 79)).heap.size ≤ k) →
        w5.cell? ⟨q, 7, none⟩ = some (.slice xf M.W.length cf) ∧ w5.frozen? ⟨q, 7, none⟩ = false ∧ (∃ I' v' vf', Rto (w5.setCell ⟨q, 7, none⟩ v5) q gc (Wid F w1 (w5.setCell ⟨q, 7, none⟩ v5)) I' (Mod.put M (a, v', zs)) b A K vf' vk (.slice xt t ct) t T) ∧ Chg F w1 (w5.setCell ⟨q, 7, none⟩ v5)) := by
    intro w3 a3 c3 o3 k3
    have kk := k3.alloc (.cells #[.int .i64 a, .slice a3 zs.length c3] 79)
    have h3 := HH.out.chg kk (fun _ _ h => h)
    refine ⟨k3.cell c7 id, Nat.lt_of_lt_of_le hql k3.size, h3.fly, news_at (xs := [.int .i64 a, .slice a3 zs.length c3]), fun v5 w5 o5 g5 n5 => ?_⟩
    have RC := HH.out.flown (a := a) (v := .slice a3 zs.length c3) (zs := zs) ha HZ.out HWO.out kk (o3.alloc _) g5 o5 n5
    have hC5 : Chg (fun k => (Value.slice xf M.W.length cf).ownBlock = some k) w1 w5 := (kk.of_no _).grown g5 (fun k hk => .inl hk)
    have n1 : ¬ (Value.slice xf M.W.length cf).ownBlock = some q := fun e => (HH.out.fpg q e).1 rfl
    exact ⟨hC5.cell c7 n1, (World.frozen?_of_block (hC5.block q hql n1)).trans hf7, ⟨_, _, _, RC.1⟩, RC.2⟩
  have H1 : ∀ (a3 : Option Addr) (c3 : Nat), ∀ u ∈ ([.int .i64 a, .slice a3 zs.length c3] : List Value), u.oneCell' = true := by
    intro a3 c3 u hu
    simp at hu
    rcases hu with rfl | rfl <;> rfl
  have H2 : ∀ (a3 : Option Addr) (c3 : Nat), ∀ u ∈ ([.int .i64 2, .int .i64 a, .slice a3 zs.length c3] : List Value), u.oneCell' = true := by
    intro a3 c3 u hu
    simp at hu
    rcases hu with rfl | rfl | rfl <;> rfl
  clear HB h hn hbA ht hWo hz hv hJ hv1
  go_upto_region 7 with fail
  go_cut [] from 7 to 43 (fun wc => (∃ I' v' vf', Rto wc q gc (Wid F w1 wc) I' (Mod.put M (a, v', zs)) b A K vf' vk (.slice xt t ct) t T) ∧ Chg F w1 wc)
  case first =>
    go_region_law (first
      | (refine step_append_at rfl (.tmp 35) (.tmp 40) 50 rfl 79 j0 (.agg #[.int .i64 0, .slice none 0 0]) 2 32 Try.underlying50 hj hy0 hy1 hy2 rfl (by decide) (.slice xf M.W.length cf) M.W.length (pairs M.W) (by simp [Act.eval]) HO.out ⟨w3.heap.size, 0, none⟩ 1 1 [.int .i64 a, .slice a3 zs.length c3] (by simp [Act.eval]) rfl HNw.out (H1 a3 c3) (by unfold maxLen; omega) (by omega) ?_; intro v5 w5 o5 g5 n5; obtain ⟨a5, c5', rfl⟩ := owns_shape o5; obtain ⟨y1, y2, y3, y4⟩ := HEnd.out _ _ o5 g5 n5)
      | (refine step_call rfl 46 #[.slice av M.sz cv] (by go_simp) (copyBytes_any _ zs _ _ (HL.out _ (Chg.refl no _).drew) hzb) ?_; rintro e w3 ⟨v3, rfl, o3, k3⟩; obtain ⟨a3, c3, rfl⟩ := owns_shape o3; obtain ⟨x1, x2, x3, x4, x5⟩ := HE.out w3 a3 c3 o3 ((Chg.refl no w1).drew.then k3); have HO : Hid _ := x3; have HNw : Hid _ := x4; have HEnd : Hid _ := x5; clear x3 x4 x5; refine ⟨_, rfl, ?_⟩))
    all_goals (go_wp2; go_meet; case rel => exact ⟨y3, y4⟩)
  case rest =>
    obtain ⟨⟨I', v', vf', h7⟩, k7⟩ := hcut
    clear HE
    obtain ⟨d0, d1, d2, d3, d4, d5, d6, d7, d8⟩ := h7.cells
    have g8 := h7.free 8
    have hqc := h7.lt q h7.fp
    have H7 : Hid (Rto wc q gc (Wid F w1 wc) I' (Mod.put M (a, v', zs)) b A K vf' vk (.slice xt t ct) t T) := h7
    have HL7 : Hid (∀ w', Chg no wc w' → Lies J w' (.slice av M.sz cv) (zs.map (Value.int .u8))) := fun w' c => ((HL.out w1 (Chg.refl no w1)).chg k7 (fun k hk => (HJ.out k hk).2)).chg c (fun _ _ h => h)
    have HE : Hid (∀ w3 a3 c3, w3.ownsRow wc.heap.size 5 1 (.slice a3 zs.length c3) zs.length (zs.map (Value.int .u8)) → Chg no wc w3 → 
        w3.cell? ⟨q, 8, none⟩ = some (.slice xt t ct) ∧ q < w3.heap.size ∧ (w3.alloc (.cells #[.int .i64 2, .int .i64 a, .slice a3 zs.length c3] 64)).ownsRow 0 64 3 (.slice xt t ct) t (recs T) ∧
        (∀ (j : Nat) (u : Value), ([.int .i64 2, .int .i64 a, .slice a3 zs.length c3] : List Value)[j]? = some u → (w3.alloc (.cells #[.int .i64 2, .int .i64 a, .slice a3 zs.length c3] 64)).cell? ((⟨w3.heap.size, 0, none⟩ : Addr).add j) = some u) ∧
        ∀ v5 w5, w5.ownsRow 0 64 3 v5 (t + 1) (recs T ++ [.int .i64 2, .int .i64 a, .slice a3 zs.length c3]) → (w3.alloc (.cells #[.int .i64 2, .int .i64 a, .slice a3 zs.length c3] 64)).grownBy w5 (Value.slice xt t ct).ownBlock → (∀ k, v5.ownBlock = some k → (Value.slice xt t ct).ownBlock = some k ∨ (w3.alloc (.cells #[.int .i64 2, .int .i64 a, .slice a3 zs.length c3] 64)).heap.size ≤ k) →
          w5.cell? ⟨q, 8, none⟩ = some (.slice xt t ct) ∧ w5.frozen? ⟨q, 8, none⟩ = false ∧ (∃ v2, Rt (w5.setCell ⟨q, 8, none⟩ v5) q (Wid F w (w5.setCell ⟨q, 8, none⟩ v5)) (Mod.put M (a, v', zs)) (T ++ [⟨2, a, v2, zs⟩])) ∧ Chg F w (w5.setCell ⟨q, 8, none⟩ v5)) := by
      intro w3 a3 c3 o3 k3
      have kk := k3.alloc (.cells #[.int .i64 2, .int .i64 a, .slice a3 zs.length c3] 64)
      have h3 := H7.out.chg kk (fun _ _ h => h)
      refine ⟨k3.cell d8 id, Nat.lt_of_lt_of_le hqc k3.size, h3.trc, news_at (xs := [.int .i64 2, .int .i64 a, .slice a3 zs.length c3]), fun v5 w5 o5 g5 n5 => ?_⟩
      have RC := H7.out.record (k := 2) (a := a) (v := .slice a3 zs.length c3) (zs := zs) kk g5 ((Lies.of_owns o3 (fun k hk => o3.lt k hk) : Lies (fun k => wc.heap.size ≤ k ∧ k < w3.heap.size) w3 _ _) |>.chg ((Chg.refl no w3).alloc _) (fun _ _ h => h) |>.mono (fun k hk => ⟨hk.1, by simp; omega⟩)) o5 n5 HT.out
      have RE := rt_end2 k1 k7 ⟨gc, _, _, _, _, _, _, _, _, RC.1, HBA.out⟩ RC.2
      have hC5 : Chg (fun k => (Value.slice xt t ct).ownBlock = some k) wc w5 := (kk.of_no _).grown g5 (fun k hk => .inl hk)
      have n1 : ¬ (Value.slice xt t ct).ownBlock = some q := fun e => (H7.out.tpg q e).1 rfl
      exact ⟨hC5.cell d8 n1, (World.frozen?_of_block (hC5.block q hqc n1)).trans g8, ⟨_, RE.1⟩, RE.2⟩
    clear h7
    go_wp2_with fail
    go_region_law (first
      | (refine step_append_at rfl (.tmp 48) (.tmp 53) 51 rfl 64 i0 (.agg #[.int .i64 0, .int .i64 0, .slice none 0 0]) 3 40 Try.underlying51 hi hz0 hz1 hz2 rfl (by decide) (.slice xt t ct) t (recs T) (by simp [Act.eval]) HO.out ⟨w3.heap.size, 0, none⟩ 1 1 [.int .i64 2, .int .i64 a, .slice a3 zs.length c3] (by simp [Act.eval]) rfl HNw.out (H2 a3 c3) (by unfold maxLen; omega) (by omega) ?_; intro v5 w5 o5 g5 n5; obtain ⟨a5, c5', rfl⟩ := owns_shape o5; obtain ⟨y1, y2, y3, y4⟩ := HEnd.out _ _ o5 g5 n5)
      | (refine step_call rfl 46 #[.slice av M.sz cv] (by go_simp) (copyBytes_any _ zs _ _ (HL7.out _ (Chg.refl no _).drew) hzb) ?_; rintro e w3 ⟨v3, rfl, o3, k3⟩; obtain ⟨a3, c3, rfl⟩ := owns_shape o3; obtain ⟨x1, x2, x3, x4, x5⟩ := HE.out w3 a3 c3 o3 ((Chg.refl no wc).drew.then k3); have HO : Hid _ := x3; have HNw : Hid _ := x4; have HEnd : Hid _ := x5; clear x3 x4 x5; refine ⟨_, rfl, ?_⟩))
    all_goals go_wp2
    all_goals go_ret
    all_goals (obtain ⟨v9, y9⟩ := y3; exact ⟨v', v9, rfl, y9, y4⟩)

end Go.Proofs.Yteehphmedmplkaa.rt
