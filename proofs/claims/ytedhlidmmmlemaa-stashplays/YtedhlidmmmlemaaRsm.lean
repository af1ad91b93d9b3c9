/- Contracts of the document's SameBlocks, of the law's Few and Plain. -/
import Derived.Test.YtedhlidmmmlemaaSam
namespace Go.Proofs.Ytedhlidmmmlemaa.st
open Go.ChangeShapes Go.WideShapes Go.ChangeAt Go.RowKit Go.Proofs.Ytedhlidmmmlemaa.hp
set_option linter.unusedVariables false

set_option maxHeartbeats 4000000 in
theorem rsame_any (w : World) (va vb : Value) (xs ys : List BV) (ha : Bks w va xs) (hb : Bks w vb ys) (hx : xs.length ≤ 100000) (hy : ys.length ≤ 100000) :
    Calls Try.prog 24 #[va, vb] w fun e w' => e = .returned (.bool (sameL (abs xs) (abs ys))) ∧ Chg no w w' := by
  obtain ⟨a, ca, rfl⟩ := ha.slice
  obtain ⟨b, cb, rfl⟩ := hb.slice
  have HA : Hid (Bks w (.slice a xs.length ca) xs) := ha
  have HB : Hid (Bks w (.slice b ys.length cb) ys) := hb
  obtain ⟨R, hR⟩ : ∃ R, sameL (abs xs) (abs ys) = R := ⟨_, rfl⟩
  have HR : Hid (sameL (abs xs) (abs ys) = R) := hR
  rw [hR]
  clear ha hb hR
  by_cases hl : xs.length = ys.length
  · obtain ⟨n, hn⟩ : ∃ n, xs.length = n := ⟨_, rfl⟩
    have HX : Hid (xs.length = n) := hn
    have HY : Hid (ys.length = n) := by rw [← hl]; exact hn
    rw [← hl, hn] at HB
    rw [hn] at HA hx
    rw [← hl, hn]
    clear hy hl hn
    have hni : (n : Int) ≤ 100000 := by omega
    go_enter Try.func24, Try.ntmps24
    go_wp2_with fail
    go_loopw [5] (fun i wr => ∃ k : Nat, k ≤ n ∧ i = .int .i64 (k : Int) ∧ Chg no w wr ∧ (abs xs).take k = (abs ys).take k) (fun i _ => n - (intOf i).toNat)
    case atStart => exact ⟨0, by omega, rfl, Chg.refl no w, rfl⟩
    case round =>
      obtain ⟨k, hk, rfl, hC, hE⟩ := hrel
      have HE : Hid ((abs xs).take k = (abs ys).take k) := hE
      have HC : Hid (Chg no w wr) := hC
      clear hE
      by_cases hkn : k < n
      · have hki : (k : Int) < n := by omega
        have q1 : k < (abs xs).length := by rw [abs_len, HX.out]; exact hkn
        have q2 : k < (abs ys).length := by rw [abs_len, HY.out]; exact hkn
        obtain ⟨y1, ab, cb1, rfl, e0, e1, _, l1, b1, _, _⟩ := (HA.out.later hC).at k (by rw [HX.out]; exact hkn)
        obtain ⟨y2, bb, cb2, rfl, f0, f1, _, l2, b2, o2, n2⟩ := (HB.out.later hC).at k (by rw [HY.out]; exact hkn)
        have HS : Hid (((abs xs).getD k dBk = (abs ys).getD k dBk → (abs xs).take (k + 1) = (abs ys).take (k + 1)) ∧ ((abs xs).getD k dBk ≠ (abs ys).getD k dBk → R = false)) := by
          refine ⟨fun e => take_eq dBk q1 q2 HE.out e, fun e => ?_⟩
          rw [← HR.out]
          exact decide_eq_false fun e' => e (by rw [e'])
        rw [abs_getD, abs_getD] at HS
        obtain ⟨⟨i1, v1, d1⟩, hx1⟩ : ∃ X, xs.getD k dBV = X := ⟨_, rfl⟩
        obtain ⟨⟨i2, v2, d2⟩, hx2⟩ : ∃ X, ys.getD k dBV = X := ⟨_, rfl⟩
        rw [hx1] at e0 e1 l1 b1 HS
        rw [hx2] at f0 f1 l2 b2 HS
        simp only [BV.bk] at e0 e1 l1 b1 f0 f1 l2 b2 HS
        have HQ : Hid (∀ W, Chg no wr W → Calls Try.prog 15 #[.slice ab d1.length cb1, .slice bb d2.length cb2] W fun e w' => e = .returned (.bool (decide (d1 = d2))) ∧ w' = W) := fun W K => bytes_any (Lies.later l1 K) (Lies.later l2 K) b1 b2
        clear hx1 hx2 q1 q2 l1 b1 l2 b2 hC o2 n2
        by_cases hi : i1 = i2
        · subst hi
          have hib : (i1 != i1) = false := by simp
          by_cases he : d1 = d2
          · rw [decide_eq_true he] at HQ
            have HN : Hid ((abs xs).take (k + 1) = (abs ys).take (k + 1)) := HS.out.1 (by rw [he])
            clear HS he
            go_wp2_with fail
            go_quiet ((go_at_call 15; exact Calls.quiet_of_same (HQ.out _ ((Chg.refl no wr).drewN _))))
            go_wp2
            go_roundw
            case rel => exact ⟨k + 1, by omega, by go_num, HC.out.drewN _, HN.out⟩
            case measure => simp [intOf]; omega
          · rw [decide_eq_false he] at HQ
            have hR : R = false := HS.out.2 (by simpa using he)
            subst hR
            clear HS he
            go_wp2_with fail
            go_quiet ((go_at_call 15; exact Calls.quiet_of_same (HQ.out _ ((Chg.refl no wr).drewN _))))
            go_wp2
            go_ret
            exact ⟨rfl, HC.out.drewN _⟩
        · have hib : (i1 != i2) = true := by simpa using hi
          have hR : R = false := HS.out.2 (by simp [hi])
          subst hR
          clear HS HQ
          go_wp2_with fail
          go_quiet (fail)
          go_wp2
          go_ret
          exact ⟨rfl, HC.out.drewN _⟩
      · obtain rfl : k = n := by omega
        have hki : (k : Int) ≤ k := by omega
        have hR : R = true := by
          have := HE.out
          rw [List.take_of_length_le (by rw [abs_len, HX.out]; omega), List.take_of_length_le (by rw [abs_len, HY.out]; omega)] at this
          rw [← HR.out]
          exact decide_eq_true this
        subst hR
        go_wp2
        go_ret
        exact ⟨rfl, HC.out⟩
  · have hR : R = false := by
      rw [← HR.out]
      refine decide_eq_false fun e => hl ?_
      have := congrArg List.length e
      rwa [abs_len, abs_len] at this
    subst hR
    obtain ⟨n, hn⟩ : ∃ n, xs.length = n := ⟨_, rfl⟩
    obtain ⟨m, hm⟩ : ∃ m, ys.length = m := ⟨_, rfl⟩
    rw [hn, hm] at hl ⊢
    clear HA HB HR hx hy hn hm
    have h1 : (n == m) = false := by simpa using hl
    have h2 : ((n : Int) == (m : Int)) = false := by simp; omega
    have h3 : ¬ ((n : Int) = (m : Int)) := by omega
    go_enter Try.func24, Try.ntmps24
    go_wp2
    go_ret
    exact ⟨rfl, Chg.refl no w⟩

/-- What Few tells: few blocks. -/
def FewRes (n : Nat) (w : World) (e : Ending) (w' : World) : Prop := ∃ b, e = .returned (.bool b) ∧ (b = true → n ≤ 200) ∧ w' = w

set_option maxRecDepth 100000 in
set_option maxHeartbeats 2000000 in
theorem few_any (w : World) (v : Value) (xs : List BV) (h : Bks w v xs) : Calls Try.prog 8 #[v] w (FewRes xs.length w) := by
  obtain ⟨a, cap, rfl⟩ := h.slice
  have HO : Hid (Bks w (.slice a xs.length cap) xs) := h
  obtain ⟨len, hlen⟩ : ∃ n, xs.length = n := ⟨_, rfl⟩
  have HL : Hid (xs.length = len) := hlen
  rw [hlen] at HO ⊢
  clear h hlen
  go_enter Try.func8, Try.ntmps8
  go_wp2_with fail
  go_loop [3, 4] (fun n i => ∃ (k N : Nat), k ≤ len ∧ k ≤ 200 ∧ N ≤ 20001 * k ∧ n = .int .i64 (N : Int) ∧ i = .int .i64 (k : Int)) (fun _ i => 200 - (intOf i).toNat)
  case atStart => exact ⟨0, 0, by omega, by omega, by omega, rfl, rfl⟩
  case round =>
    obtain ⟨k, N, hk1, hk2, hN, rfl, rfl⟩ := hrel
    by_cases hkl : k < len
    · have hkli : (k : Int) < len := by omega
      by_cases hk3 : k < 200
      · have hk3i : (k : Int) < 200 := by omega
        obtain ⟨x, ab, cb, rfl, e0, e1, _⟩ := HO.out.at k (by rw [HL.out]; exact hkl)
        obtain ⟨L, hL⟩ : ∃ L, (xs.getD k dBV).d.length = L := ⟨_, rfl⟩
        rw [hL] at e1
        obtain ⟨mL, hmL, bL⟩ : ∃ mL : Nat, (if (20001 : Int) < (L : Int) then (20001 : Int) else (L : Int)) = mL ∧ mL ≤ 20001 := by
          by_cases h : (20001 : Int) < L
          · exact ⟨20001, by rw [if_pos h]; rfl, by omega⟩
          · exact ⟨L, by rw [if_neg h], by omega⟩
        clear hL e0
        go_wp2
        go_round
        case rel => exact ⟨k + 1, N + mL, by omega, by omega, by omega, by go_num, by go_num⟩
        case measure => simp [intOf]; omega
      · have hk3i : (200 : Int) ≤ k := by omega
        by_cases hl : len ≤ 200
        · omega
        · have hli : (200 : Int) < len := by omega
          go_wp2
          go_ret
          exact ⟨false, rfl, fun h => by simp at h, rfl⟩
    · obtain rfl : k = len := by omega
      have hkli : (k : Int) ≤ k := by omega
      have hli : (k : Int) ≤ 200 := by omega
      go_wp2
      go_ret
      exact ⟨_, rfl, fun _ => hk2, rfl⟩

abbrev bz : Value := .agg #[.int .i64 0, .slice none 0 0]
theorem info36 : (Try.prog.info? 36).map (fun i => (i.zero, i.size, i.bytes)) = some (some bz, 2, 32) := by kernel_rfl
theorem info37 : (Try.prog.info? 37).map (fun i => (i.zero, i.size, i.bytes)) = some (some bz, 2, 32) := by kernel_rfl

theorem info_parts' {e : TypeId} {z : Value} {s b : Nat} (h : (Try.prog.info? e).map (fun i => (i.zero, i.size, i.bytes)) = some (some z, s, b)) : ∃ i, Try.prog.info? e = some i ∧ i.zero = some z ∧ i.size = s ∧ i.bytes = b := by
  obtain ⟨i, h1, h2⟩ := Option.map_eq_some_iff.1 h
  simp only [Prod.mk.injEq] at h2
  exact ⟨i, h1, h2.1, h2.2.1, h2.2.2⟩

theorem oldW_start {e : TypeId} (w : World) : NewB e no w (Old w) [] (.slice none 0 0) w := NewB.start (fun _ h => h.elim) (fun k hk => ⟨fun h => h, hk⟩)

set_option maxHeartbeats 4000000 in
/-- Plain: the same blocks, for the document. -/
theorem plain_any (w : World) (v : Value) (xs : List BV) (h : Bks w v xs) (hx : xs.length ≤ 100000) :
    Calls Try.prog 25 #[v] w fun e w' => ∃ v', e = .returned v' ∧ NewB 37 no w (Old w) xs v' w' := by
  obtain ⟨i0, hi, hz0, hz1, hz2⟩ := info_parts' info37
  obtain ⟨a, cap, rfl⟩ := h.slice
  have HO : Hid (Bks w (.slice a xs.length cap) xs) := h
  have HD : Hid (∀ x ∈ xs, Lies (Old w) w x.v (x.d.map (Value.int .u8)) ∧ Bytes x.d) := h.dat
  obtain ⟨n, hn⟩ : ∃ n, xs.length = n := ⟨_, rfl⟩
  have HL : Hid (xs.length = n) := hn
  rw [hn] at HO hx ⊢
  have hni : (n : Int) ≤ 100000 := by omega
  clear h hn
  go_enter Try.func25, Try.ntmps25
  go_wp2_with fail
  go_loopw [3, 4] (fun u i wr => ∃ k : Nat, k ≤ n ∧ i = .int .i64 (k : Int) ∧ NewB 37 no w (Old w) (xs.take k) u wr) (fun _ i _ => n - (intOf i).toNat)
  case atStart => exact ⟨0, by omega, rfl, oldW_start w⟩
  case round =>
    obtain ⟨k, hk, rfl, hN⟩ := hrel
    by_cases hkn : k < n
    · have hki : (k : Int) < n := by omega
      have hkl : k < xs.length := by rw [HL.out]; exact hkn
      obtain ⟨y, ab, cb, rfl, e0, e1, hv, _, _, o1, n1⟩ := (HO.out.later hN.chg).at k hkl
      obtain ⟨a', c', m, XS, rfl, hm, ho, hadd⟩ := hN.ready
      have hml : m ≤ k := by rw [hm, List.length_take]; omega
      have HE : Hid (xs.take (k + 1) = xs.take k ++ [xs.getD k dBV]) := take_snoc xs k dBV hkl
      have hmem : xs.getD k dBV ∈ xs := by
        rw [List.getD_eq_getElem?_getD, List.getElem?_eq_getElem hkl]
        exact List.getElem_mem _
      obtain ⟨dl, db⟩ := HD.out _ hmem
      obtain ⟨⟨i1, v1, d1⟩, hx1⟩ : ∃ X, xs.getD k dBV = X := ⟨_, rfl⟩
      rw [hx1] at e0 e1 hv HE dl db
      simp only at e0 e1 hv dl db
      subst hv
      have HO2 : Hid (∀ W, Chg no wr W → W.ownsRow 0 37 2 (.slice a' m c') m XS) := ho
      have HAD : Hid (∀ W v' w3, Chg no wr W → w3.ownsRow 0 37 2 v' (m + 1) (XS ++ [.int .i64 i1, .slice ab d1.length cb]) → W.grownBy w3 (Value.slice a' m c').ownBlock → (∀ b, v'.ownBlock = some b → (Value.slice a' m c').ownBlock = some b ∨ W.heap.size ≤ b) → NewB 37 no w (Old w) (xs.take (k + 1)) v' w3) := by
        intro W v' w3 K o g p
        rw [HE.out]
        exact hadd ⟨i1, .slice ab d1.length cb, d1⟩ (Old w) W v' w3 K (dl.chg (hN.chg.then K) (fun _ _ h => h)) db (fun _ h => h) (fun _ h => .inl h) o g p
      clear hadd ho dl db hmem hm hN HE hx1
      go_wp2_with fail
      go_region_law (refine step_append_at rfl (.tmp 11) (.tmp 23) 30 rfl 37 i0 bz 2 32 Try.underlying30 hi hz0 hz1 hz2 rfl (by decide) (.slice a' m c') m XS (by simp [Act.eval]) (HO2.out _ (((Chg.refl no wr).alloc _).drew)) ⟨wr.heap.size, 0, none⟩ 1 1 [.int .i64 i1, .slice ab d1.length cb] (by simp [Act.eval]) rfl news_at (one_b _ _ _ _) (by unfold maxLen; omega) (by omega) ?_; intro v5 w5 o5 g5 n5; have N5 := HAD.out _ v5 w5 (((Chg.refl no wr).alloc _).drew) o5 g5 n5; obtain ⟨a5, c5, rfl⟩ := owns_shape o5; have HN5 : Hid _ := N5; clear o5 g5 n5 N5)
      all_goals go_wp2
      all_goals go_roundw
      all_goals first | exact ⟨k + 1, by omega, by go_num, HN5.out⟩ | (simp [intOf]; omega)
    · obtain rfl : k = n := by omega
      have hki : (k : Int) ≤ k := by omega
      have hZ := hN
      rw [List.take_of_length_le (by rw [HL.out]; omega)] at hZ
      obtain ⟨a5, c5, rfl⟩ := hZ.shape
      have HZ : Hid _ := hZ
      clear hN hZ
      go_wp2
      go_ret
      exact ⟨_, rfl, HZ.out⟩

end Go.Proofs.Ytedhlidmmmlemaa.st
