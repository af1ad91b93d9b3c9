/- Contracts of the document's Set, Settle and Apply. -/
import Derived.Test.YtocbmjkbbbmncaaApl
namespace Go.Proofs.Ytocbmjkbbbmncaa.st
open Go.ChangeShapes Go.WideShapes Go.ChangeAt Go.RowKit Go.Proofs.Ytocbmjkbbbmncaa.hp
set_option linter.unusedVariables false

set_option maxHeartbeats 1000000 in
theorem rset_bad {p : Nat} {pv cv : Value} {ps : List (Int × Int)} {ch : List Bool} {w : World} (h : Mp 49 39 p pv cv ps ch w) (d l t : Int) (hm : may ps.length d l t = false) :
    Calls Try.prog 13 #[pt p, .int .i64 d, nv l t] w fun e w' => e = .returned (.bool false) ∧ Chg no w w' := by
  obtain ⟨c0, c1, _, hp⟩ := h.cells
  obtain ⟨⟨a, c, rfl⟩, _⟩ := h.shape
  obtain ⟨n, hn⟩ : ∃ n, ps.length = n := ⟨_, rfl⟩
  rw [hn] at c0 hm
  have hc : d < 0 ∨ (0 ≤ d ∧ (n : Int) ≤ d) ∨ (0 ≤ d ∧ d < n ∧ l < 0) ∨ (0 ≤ d ∧ d < n ∧ 0 ≤ l ∧ t < 0) := by
    unfold may at hm
    simp at hm
    omega
  clear h hn c1 hm
  rcases hc with h1 | ⟨h1, h2⟩ | ⟨h1, h2, h3⟩ | ⟨h1, h2, h3, h4⟩
  all_goals
    go_enter Try.func13, Try.ntmps13
    go_wp2
    go_ret
    exact ⟨rfl, (Chg.refl no w).alloc _⟩

set_option maxHeartbeats 2000000 in
theorem rset_ok {p : Nat} {pv cv : Value} {ps : List (Int × Int)} {ch : List Bool} {w : World} (h : Mp 49 39 p pv cv ps ch w) (k : Nat) (l t : Int) (hk : k < ps.length) (hl : 0 ≤ l) (ht : 0 ≤ t) :
    Calls Try.prog 13 #[pt p, .int .i64 k, nv l t] w fun e w' => e = .returned (.bool true) ∧ Mp 49 39 p pv cv (ps.set k (l, t)) (ch.set k true) w' ∧ Chg (Ft p pv cv) w w' := by
  obtain ⟨c0, c1, _, hp⟩ := h.cells
  obtain ⟨l0, t0, hq0⟩ : ∃ l0 t0, ps[k]? = some (l0, t0) := ⟨ps[k].1, ps[k].2, List.getElem?_eq_getElem hk⟩
  obtain ⟨g, c, hpv, f0, f1, f2', f3', hgp, hgl⟩ := h.at hq0
  have hkc : k < ch.length := by rw [h.len]; exact hk
  obtain ⟨b0, hb0⟩ : ∃ b0, ch[k]? = some b0 := ⟨_, List.getElem?_eq_getElem hkc⟩
  obtain ⟨g', c', hcv, m0, m1, hgp', hgl'⟩ := h.mark_at hb0
  have hgg : g ≠ g' := fun e => h.pc g (by rw [hpv]; rfl) (by rw [hcv, e]; rfl)
  have HA : Hid (∀ W, Chg no (((w.setCell ⟨g, k * 2, none⟩ (.int .i64 l)).setCell ⟨g, k * 2 + 1, none⟩ (.int .i64 t)).setCell ⟨g', k, none⟩ (.bool true)) W → Mp 49 39 p pv cv (ps.set k (l, t)) (ch.set k true) W ∧ Chg (Ft p pv cv) w W) := by
    intro W K
    constructor
    · have h2 := h
      rw [hpv, hcv] at h2 ⊢
      exact ((h2.put k (l, t)).mark k true).same K
    · have q1 := (Chg.refl (Ft p pv cv) w).setCell ⟨g, k * 2, none⟩ (.int .i64 l) (.inl (.inr (.inl (by rw [hpv]; rfl))))
      have q2 := q1.setCell ⟨g, k * 2 + 1, none⟩ (.int .i64 t) (.inl (.inr (.inl (by rw [hpv]; rfl))))
      exact (q2.setCell ⟨g', k, none⟩ (.bool true) (.inl (.inr (.inr (by rw [hcv]; rfl))))).then (K.of_no _)
  rw [hpv] at c0
  rw [hcv] at c1
  obtain ⟨n, hn⟩ : ∃ n, ps.length = n := ⟨_, rfl⟩
  rw [hn] at c0 c1 hk
  have hki : (k : Int) < n := by omega
  clear h hq0 hb0 hkc hn hpv hcv
  go_enter Try.func13, Try.ntmps13
  go_wp2_with fail
  go_region
  all_goals go_wp2
  all_goals go_ret
  all_goals exact ⟨rfl, HA.out _ ((Chg.refl no _).alloc _).drew⟩

set_option maxHeartbeats 1000000 in
theorem rsettle_any {p : Nat} {pv cv : Value} {ps : List (Int × Int)} {ch : List Bool} {w : World} (h : Mp 49 39 p pv cv ps ch w) (hl : ps.length ≤ 100000) :
    Calls Try.prog 16 #[pt p] w fun e w' => ∃ cv', e = .returned (.tuple #[]) ∧ Mp 49 39 p pv cv' ps (List.replicate ps.length false) w' ∧ Chg (Ft p pv cv) w w' ∧ ∀ k, cv'.ownBlock = some k → w.heap.size ≤ k := by
  obtain ⟨c0, c1, hf, hp⟩ := h.cells
  obtain ⟨⟨a, c, hpv⟩, ⟨a', c', hcv⟩⟩ := h.shape
  have hs : (w.setCell ⟨p, 1, none⟩ (.slice (some ⟨w.heap.size, 0, none⟩) ps.length ps.length)).heap.size = w.heap.size := by simp
  have hr := row_made (w.setCell ⟨p, 1, none⟩ (.slice (some ⟨w.heap.size, 0, none⟩) ps.length ps.length)) ps.length (by unfold maxLen; omega)
  rw [hs] at hr
  have K0 : Chg (fun b => b = p) w (w.setCell ⟨p, 1, none⟩ (.slice (some ⟨w.heap.size, 0, none⟩) ps.length ps.length)) := (Chg.refl _ w).setCell _ _ (.inl rfl)
  have HX : Hid (Mp 49 39 p pv (.slice (some ⟨w.heap.size, 0, none⟩) ps.length ps.length) ps (List.replicate ps.length false) ((w.setCell ⟨p, 1, none⟩ (.slice (some ⟨w.heap.size, 0, none⟩) ps.length ps.length)).alloc (.cells (madeCells #[.bool false] ps.length) 4))) := by
    have hb : w.heap[p]? = some (.cells [pv, cv].toArray 49 (0, 0)) := h.blk
    refine ⟨((Chg.refl no _).alloc _).heap (row_set hb 1 _) id, (K0.alloc _).owns h.row (fun k hk e => h.np (by rw [← e]; exact hk)), owns_base hr (Nat.zero_le _), h.np, ?_, ?_⟩
    · intro e
      simp [Value.ownBlock] at e
      omega
    · intro k hk e
      have := (h.row.lt k hk).2
      simp [Value.ownBlock] at e
      omega
  have HY : Hid (Chg (Ft p pv cv) w ((w.setCell ⟨p, 1, none⟩ (.slice (some ⟨w.heap.size, 0, none⟩) ps.length ps.length)).alloc (.cells (madeCells #[.bool false] ps.length) 4))) := ((Chg.refl _ w).setCell _ _ (.inl (.inl rfl))).alloc _
  clear hs K0
  rw [hpv] at c0
  rw [hcv] at c1
  obtain ⟨n, hn⟩ : ∃ n, ps.length = n := ⟨_, rfl⟩
  rw [hn] at c0 c1 hl HX HY ⊢
  have hmake := fun w => run_make_row' (P := Try.prog) 47 4 (.bool false) 1 Try.underlying47 info4 rfl .i64 .i64 n (by omega) (by omega) w
  have hpw : p ≠ w.heap.size := by omega
  clear h hn hr hpv hcv
  go_enter Try.func16, Try.ntmps16
  go_wp2
  go_end0
  exact ⟨.slice (some ⟨w.heap.size, 0, none⟩) n n, rfl, HX.out, HY.out, fun k hk => by simp [Value.ownBlock] at hk; omega⟩

theorem rset_any {p : Nat} {pv cv : Value} {ps : List (Int × Int)} {ch : List Bool} {w : World} (h : Mp 49 39 p pv cv ps ch w) (d l t : Int) :
    Calls Try.prog 13 #[pt p, .int .i64 d, nv l t] w fun e w' => e = .returned (.bool (may ps.length d l t)) ∧ Mp 49 39 p pv cv (setP ps d l t) (setC ps.length ch d l t) w' ∧ Chg (Ft p pv cv) w w' := by
  cases ha : may ps.length d l t
  · have e1 : setP ps d l t = ps := by unfold setP; rw [ha]; rfl
    have e2 : setC ps.length ch d l t = ch := by unfold setC; rw [ha]; rfl
    rw [e1, e2]
    refine (rset_bad h d l t ha).mono ?_
    rintro e w' ⟨rfl, k⟩
    exact ⟨rfl, h.same k, k.of_no _⟩
  · have hd : 0 ≤ d ∧ d < ps.length ∧ 0 ≤ l ∧ 0 ≤ t := by unfold may at ha; simpa using ha
    obtain ⟨k, rfl⟩ := Int.eq_ofNat_of_zero_le hd.1
    have e1 : setP ps k l t = ps.set k (l, t) := by unfold setP; rw [ha, if_pos rfl, Int.toNat_natCast]
    have e2 : setC ps.length ch k l t = ch.set k true := by unfold setC; rw [ha, if_pos rfl, Int.toNat_natCast]
    rw [e1, e2]
    exact rset_ok h k l t (by omega) hd.2.2.1 hd.2.2.2

set_option maxHeartbeats 4000000 in
theorem rapply_any {J : Nat → Prop} {p : Nat} {pv cv : Value} {ps : List (Int × Int)} {ch : List Bool} {w : World} (h : Mp 49 39 p pv cv ps ch w) (v : Value) (cs : List (Int × Int × Int)) (hv : Lie J w v cs.length (cs.flatMap f3)) (hJ : ∀ k, J k → ¬ Ft p pv cv k) (hl : cs.length ≤ 100000) :
    Calls Try.prog 18 #[pt p, v] w fun e w' => e = .returned (.bool (mayAll ps.length cs)) ∧ Mp 49 39 p pv cv (applyP ps cs) ch w' ∧ Chg (Ft p pv cv) w w' := by
  obtain ⟨x, cx, rfl⟩ := hv.slice
  have HV : Hid (∀ W, Chg (Ft p pv cv) w W → ∀ k d l t, cs[k]? = some (d, l, t) → ∃ y, x = some y ∧ W.cell? (y.add (k * 3)) = some (.int .i64 d) ∧ W.cell? ⟨(y.add (k * 3)).block, (y.add (k * 3)).off + 1, none⟩ = some (.int .i64 l) ∧ W.cell? ⟨(y.add (k * 3)).block, (y.add (k * 3)).off + 2, none⟩ = some (.int .i64 t)) := by
    intro W kk k d l t e
    obtain ⟨y, e1, _, e2, e3, e4⟩ := (hv.chg kk hJ).at3 e
    exact ⟨y, e1, e2, e3, e4⟩
  have HM : Hid (Mp 49 39 p pv cv ps ch w) := h
  obtain ⟨c0, _, _, hp⟩ := h.cells
  obtain ⟨ap, cp, hpv⟩ := h.shape.1
  rw [hpv] at c0
  have hpl : (ps.length : Int) ≤ 9223372036854775807 := by
    rcases h.row.2 with ⟨_, e⟩ | ⟨g, cap, cur, _, _, _, e1, e2, _⟩
    · omega
    · unfold maxLen at e2
      omega
  have HCL : Hid (∀ W, Chg no w W → W.cell? ⟨p, 0, none⟩ = some (.slice ap ps.length cp) ∧ p < W.heap.size) := fun W k => ⟨k.cell c0 id, Nat.lt_of_lt_of_le hp k.size⟩
  obtain ⟨r, hr⟩ : ∃ r, mayAll ps.length cs = r := ⟨_, rfl⟩
  have HR : Hid (mayAll ps.length cs = r) := hr
  obtain ⟨Q, hQ⟩ : ∃ Q, applyP ps cs = Q := ⟨_, rfl⟩
  have HQ : Hid (applyP ps cs = Q) := hQ
  rw [hr, hQ]
  clear hQ
  obtain ⟨n, hn⟩ : ∃ n, cs.length = n := ⟨_, rfl⟩
  have HNN : Hid (cs.length = n) := hn
  rw [hn] at hl ⊢
  obtain ⟨N, hN⟩ : ∃ N, ps.length = N := ⟨_, rfl⟩
  have HN : Hid (ps.length = N) := hN
  rw [hN] at HCL hpl
  have hni : (n : Int) ≤ 100000 := by omega
  have HPV : Hid (pv = .slice ap ps.length cp) := hpv
  clear h hv hn hr hN hpv c0
  go_enter Try.func18, Try.ntmps18
  go_wp2_with fail
  go_loopw [5] (fun i wr => ∃ k : Nat, k ≤ n ∧ i = .int .i64 (k : Int) ∧ Chg no w wr ∧ mayAll ps.length (cs.take k) = true) (fun i _ => n - (intOf i).toNat)
  case atStart => exact ⟨0, by omega, rfl, Chg.refl no w, rfl⟩
  case round =>
    obtain ⟨k, hk, rfl, hC, hA⟩ := hrel
    have HA : Hid (mayAll ps.length (cs.take k) = true) := hA
    clear hA
    by_cases hkn : k < n
    · have hki : (k : Int) < n := by omega
      have hkl : k < cs.length := by rw [HNN.out]; exact hkn
      obtain ⟨⟨d, l, t⟩, hlt⟩ : ∃ x, cs[k]? = some x := ⟨_, List.getElem?_eq_getElem hkl⟩
      have HLT : Hid (cs[k]? = some (d, l, t)) := hlt
      obtain ⟨y, rfl, e0, e1, e2⟩ := HV.out wr (hC.of_no _) k d l t hlt
      obtain ⟨d0, d1⟩ := HCL.out wr hC
      have HC : Hid (Chg no w wr) := hC
      have HZ : Hid (∀ W, Chg no wr W → Mp 49 39 p pv cv ps ch W ∧ Chg (Ft p pv cv) w W) := fun W K => ⟨Mp.same HM.out (hC.then K), (hC.then K).of_no _⟩
      have hcs : (d < 0 ∧ may ps.length d l t = false) ∨ (0 ≤ d ∧ (N : Int) ≤ d ∧ may ps.length d l t = false) ∨ (0 ≤ d ∧ d < N ∧ l < 0 ∧ may ps.length d l t = false) ∨ (0 ≤ d ∧ d < N ∧ 0 ≤ l ∧ t < 0 ∧ may ps.length d l t = false) ∨ (0 ≤ d ∧ d < N ∧ 0 ≤ l ∧ 0 ≤ t ∧ may ps.length d l t = true) := by
        rw [HN.out]
        unfold may
        simp
        omega
      clear hlt hkl hC
      have bad : may ps.length d l t = false → r = false ∧ Q = ps := by
        intro hb
        have hr : r = false := by rw [← HR.out]; exact mayAll_not HLT.out hb
        refine ⟨hr, ?_⟩
        rw [← HQ.out]
        unfold applyP
        rw [HR.out, hr]
        rfl
      rcases hcs with ⟨h1, hb⟩ | ⟨h1, h2, hb⟩ | ⟨h1, h2, h3, hb⟩ | ⟨h1, h2, h3, h4, hb⟩ | ⟨h1, h2, h3, h4, hb⟩
      case inr.inr.inr.inr =>
        clear bad
        have HA2 : Hid (mayAll ps.length (cs.take (k + 1)) = true) := by
          show mayAll ps.length (cs.take (k + 1)) = true
          rw [mayAll_next _ _ _ _ _ _ HLT.out, HA.out, hb]
          rfl
        clear hb
        have g1 : decide (d < 0) = false := by simp; omega
        have g2 : decide ((N : Int) ≤ d) = false := by simp; omega
        have g3 : decide (l < 0) = false := by simp; omega
        have g4 : decide (t < 0) = false := by simp; omega
        go_wp2_with fail
        go_quiet (fail)
        go_wp2
        go_roundw
        case rel => exact ⟨k + 1, by omega, by go_num, by first | exact HC.out.drewN _ | exact HC.out.drew | exact HC.out, HA2.out⟩
        case measure => simp [intOf]; omega
      case inl =>
        obtain ⟨rfl, hq⟩ := bad hb
        have HX : Hid (Q = ps) := hq
        clear bad hb hq
        have g1 : decide (d < 0) = true := by simp; omega
        go_wp2_with fail
        go_quiet (fail)
        go_wp2
        go_ret
        refine ⟨rfl, ?_⟩
        rw [HX.out]
        refine HZ.out _ ?_
        first | exact (Chg.refl no wr).drewN _ | exact (Chg.refl no wr).drew | exact Chg.refl no wr
      case inr.inl =>
        obtain ⟨rfl, hq⟩ := bad hb
        have HX : Hid (Q = ps) := hq
        clear bad hb hq
        have g1 : decide (d < 0) = false := by simp; omega
        have g2 : decide ((N : Int) ≤ d) = true := by simp; omega
        go_wp2_with fail
        go_quiet (fail)
        go_wp2
        go_ret
        refine ⟨rfl, ?_⟩
        rw [HX.out]
        refine HZ.out _ ?_
        first | exact (Chg.refl no wr).drewN _ | exact (Chg.refl no wr).drew | exact Chg.refl no wr
      case inr.inr.inl =>
        obtain ⟨rfl, hq⟩ := bad hb
        have HX : Hid (Q = ps) := hq
        clear bad hb hq
        have g1 : decide (d < 0) = false := by simp; omega
        have g2 : decide ((N : Int) ≤ d) = false := by simp; omega
        have g3 : decide (l < 0) = true := by simp; omega
        go_wp2_with fail
        go_quiet (fail)
        go_wp2
        go_ret
        refine ⟨rfl, ?_⟩
        rw [HX.out]
        refine HZ.out _ ?_
        first | exact (Chg.refl no wr).drewN _ | exact (Chg.refl no wr).drew | exact Chg.refl no wr
      case inr.inr.inr.inl =>
        obtain ⟨rfl, hq⟩ := bad hb
        have HX : Hid (Q = ps) := hq
        clear bad hb hq
        have g1 : decide (d < 0) = false := by simp; omega
        have g2 : decide ((N : Int) ≤ d) = false := by simp; omega
        have g3 : decide (l < 0) = false := by simp; omega
        have g4 : decide (t < 0) = true := by simp; omega
        go_wp2_with fail
        go_quiet (fail)
        go_wp2
        go_ret
        refine ⟨rfl, ?_⟩
        rw [HX.out]
        refine HZ.out _ ?_
        first | exact (Chg.refl no wr).drewN _ | exact (Chg.refl no wr).drew | exact Chg.refl no wr
    · obtain rfl : k = n := by omega
      have hki : (k : Int) ≤ k := by omega
      have hA2 : mayAll ps.length cs = true := by
        have := HA.out
        rw [← HNN.out, List.take_length] at this
        exact this
      have hr : r = true := by rw [← HR.out]; exact hA2
      subst hr
      have HX : Hid (Q = putAll ps cs) := by
        show Q = putAll ps cs
        rw [← HQ.out]
        unfold applyP
        rw [hA2]
        rfl
      have HAll : Hid (mayAll ps.length cs = true) := hA2
      have HM2 : Hid (Mp 49 39 p pv cv ps ch wr) := Mp.same HM.out hC
      have HC : Hid (Chg (Ft p pv cv) w wr) := hC.of_no _
      clear hA2 hC HA
      go_wp2_with fail
      go_loopw [6] (fun i wr => ∃ j : Nat, j ≤ k ∧ i = .int .i64 (j : Int) ∧ Chg (Ft p pv cv) w wr ∧ Mp 49 39 p pv cv (putAll ps (cs.take j)) ch wr) (fun i _ => k - (intOf i).toNat)
      case atStart => exact ⟨0, by omega, rfl, HC.out, HM2.out⟩
      case round =>
        clear HC HM2
        obtain ⟨j, hj, rfl, hC, hMj⟩ := hrel
        by_cases hjn : j < k
        · have hji : (j : Int) < k := by omega
          have hjl : j < cs.length := by rw [HNN.out]; exact hjn
          obtain ⟨⟨d, l, t⟩, hlt⟩ : ∃ x, cs[j]? = some x := ⟨_, List.getElem?_eq_getElem hjl⟩
          obtain ⟨i, rfl, hin⟩ := may_nat (mayAll_at HAll.out hlt)
          have HE : Hid (putAll ps (cs.take (j + 1)) = (putAll ps (cs.take j)).set i (l, t)) := by
            have := putAll_next ps cs j _ l t hlt
            rwa [Int.toNat_natCast] at this
          obtain ⟨y, rfl, e0, e1, e2⟩ := HV.out wr hC j i l t hlt
          obtain ⟨qs, hqs⟩ : ∃ qs, putAll ps (cs.take j) = qs := ⟨_, rfl⟩
          have hql : qs.length = ps.length := by rw [← hqs]; exact putAll_length _ _
          rw [hqs] at hMj HE
          have hi : i < qs.length := by omega
          obtain ⟨c0, _, _, hps⟩ := hMj.cells
          obtain ⟨l0, t0, hq0⟩ : ∃ l0 t0, qs[i]? = some (l0, t0) := ⟨qs[i].1, qs[i].2, List.getElem?_eq_getElem hi⟩
          obtain ⟨g, c, hpv, f0, f1, f2', f3', hgp, hgs⟩ := hMj.at hq0
          have HX2 : Hid (Mp 49 39 p pv cv (qs.set i (l, t)) ch ((wr.setCell ⟨g, i * 2, none⟩ (.int .i64 l)).setCell ⟨g, i * 2 + 1, none⟩ (.int .i64 t)).drew) := by
            have h2 := hMj
            rw [hpv] at h2 ⊢
            exact (h2.put i (l, t)).same ((Chg.refl no _).drew)
          have HY2 : Hid (Chg (Ft p pv cv) w ((wr.setCell ⟨g, i * 2, none⟩ (.int .i64 l)).setCell ⟨g, i * 2 + 1, none⟩ (.int .i64 t)).drew) := by
            have q1 := hC.setCell ⟨g, i * 2, none⟩ (.int .i64 l) (.inl (.inr (.inl (by rw [hpv]; rfl))))
            exact (q1.setCell ⟨g, i * 2 + 1, none⟩ (.int .i64 t) (.inl (.inr (.inl (by rw [hpv]; rfl))))).drew
          rw [hpv] at c0
          have hii : (i : Int) < qs.length := by omega
          obtain ⟨M, hM⟩ : ∃ M, qs.length = M := ⟨_, rfl⟩
          rw [hM] at c0 hii
          clear hq0 hlt hjl hin hqs hql hMj hi hC hM
          go_wp2_with fail
          go_region
          go_wp2
          go_roundw
          case rel => exact ⟨j + 1, by omega, by go_num, HY2.out, by rw [HE.out]; exact HX2.out⟩
          case measure => simp [intOf]; omega
        · obtain rfl : j = k := by omega
          have hji : (j : Int) ≤ j := by omega
          have hZ := hMj
          rw [← HNN.out, List.take_length] at hZ
          have HZ2 : Hid _ := hZ
          clear hMj hZ
          go_wp2
          go_ret
          exact ⟨rfl, by rw [HX.out]; exact HZ2.out, hC⟩

end Go.Proofs.Ytocbmjkbbbmncaa.st
