/- The contract of the document's Sorted. -/
import Derived.Test.YtkaohjlnlgennaaRow
import Derived.Test.YtkaohjlnlgennaaFre
import Derived.Test.YtkaohjlnlgennaaSrl
import Derived.Deep.RegionHeldLaw
import Derived.Deep.CutBlock
namespace Go.Proofs.Ytkaohjlnlgennaa.st
open Go.ChangeShapes Go.WideShapes Go.ChangeAt Go.RowKit Go.Proofs.Ytkaohjlnlgennaa.hp Go.Proofs.Ytkaohjlnlgennaa.tm Go.Proofs.Ytkaohjlnlgennaa.ev
set_option linter.unusedVariables false
set_option linter.unusedSimpArgs false

theorem info_parts' {e : TypeId} {z : Value} {s b : Nat} (h : (Try.prog.info? e).map (fun i => (i.zero, i.size, i.bytes)) = some (some z, s, b)) : ∃ i, Try.prog.info? e = some i ∧ i.zero = some z ∧ i.size = s ∧ i.bytes = b := by
  obtain ⟨i, h1, h2⟩ := Option.map_eq_some_iff.1 h
  simp only [Prod.mk.injEq] at h2
  exact ⟨i, h1, h2.1, h2.2.1, h2.2.2⟩

theorem lie_none (J : Nat → Prop) (w : World) (a : Option Addr) (c : Nat) (h : a = none → c = 0) : Lie J w (.slice a 0 c) 0 [] := by
  cases a with
  | none => exact .inl ⟨by rw [h rfl], rfl, rfl⟩
  | some y => exact .inr ⟨y, c, rfl, fun h => (h rfl).elim, fun i u hu => by simp at hu⟩

/-- A front of a row of the call's own. -/
theorem ones (l : List Int) : ∀ u ∈ l.map (Value.int .i64), u.oneCell' = true := fun u hu => by
  obtain ⟨q, _, rfl⟩ := List.mem_map.1 hu
  rfl

theorem New.front {w w' : World} {zs : List Int} {a : Option Addr} {n c : Nat} (h : New w zs (.slice a n c) w') (k : Nat) (hk : k ≤ zs.length) : Fresh 3 1 w w' (.slice a k c) k ((zs.take k).map (Value.int .i64)) := by
  have hn : n = zs.length := by
    obtain ⟨a', c', hv⟩ := h.shape
    cases hv
    rfl
  subst hn
  refine ⟨⟨by simp [Nat.min_eq_left hk], ?_⟩, h.2⟩
  rcases h.1.2 with ⟨hv, h0⟩ | ⟨g, cap, cur, hv, hb, hg, h1, h2, h3, h4⟩
  · simp only [Value.slice.injEq] at hv
    obtain ⟨rfl, e, rfl⟩ := hv
    obtain rfl : k = 0 := by omega
    exact .inl ⟨rfl, rfl⟩
  · simp only [Value.slice.injEq] at hv
    obtain ⟨rfl, _, rfl⟩ := hv
    refine .inr ⟨g, c, cur, rfl, hb, hg, by omega, h2, h3, ?_⟩
    rw [List.map_take, ← h4, List.take_take]
    congr 1
    omega

theorem New.rest {w w' W : World} {zs : List Int} {g n c : Nat} (h : New w zs (.slice (some ⟨g, 0, none⟩) n c) w') (kW : Chg no w' W) (k M C : Nat) (hM : zs.length - k = M) : Lie (fun _ => True) W (.slice (some ⟨g, k, none⟩) M C) M ((zs.drop k).map (Value.int .i64)) := by
  have hn : n = zs.length := by
    obtain ⟨a', c', hv⟩ := h.shape
    cases hv
    rfl
  subst hn
  refine .inr ⟨_, C, rfl, fun _ => trivial, fun j u hu => ?_⟩
  rw [List.map_drop, List.getElem?_drop] at hu
  obtain ⟨g', e, _, hc, _⟩ := owns_at h.1 hu
  cases e
  rw [Addr.add_lit]
  exact kW.cell hc (fun h => h)

set_option maxRecDepth 100000 in
set_option maxHeartbeats 4000000 in
theorem sorted_any {J : Nat → Prop} (w : World) (a : Option Addr) (n c : Nat) (zs : List Int) (hv : Lies J w (.slice a n c) (zs.map (Value.int .i64))) (hn : zs.length = n) (hl : n ≤ 100000) :
    Calls Try.prog 25 #[.slice a n c] w fun e w' => ∃ v', e = .returned v' ∧ New w (sortI zs) v' w' := by
  obtain ⟨i0, hi0, hz0, hz1, hz2⟩ := info_parts' info3
  have HV : Hid (Lies J w (.slice a n c) (zs.map (Value.int .i64))) := hv
  have HL : Hid (zs.length = n) := hn
  have HN0 : Hid (New w (sortI (zs.take 0)) (.slice none 0 0) w) := New.nil w
  have hni : (n : Int) ≤ 100000 := by omega
  clear hv hn
  go_enter Try.func25, Try.ntmps25
  go_wp2_with fail
  go_loopw [3, 4] (fun v i wr => ∃ j : Nat, j ≤ n ∧ i = .int .i64 (j : Int) ∧ New w (sortI (zs.take j)) v wr) (fun _ i _ => n - (intOf i).toNat)
  case atStart => exact ⟨0, by omega, rfl, HN0.out⟩
  case round =>
    clear HN0
    obtain ⟨j, hj, rfl, hN⟩ := hrel
    obtain ⟨xa, xc, rfl⟩ := hN.shape
    by_cases hjn : j < n
    · have hji : (j : Int) < n := by omega
      obtain ⟨y, rfl, hy⟩ := lies_at HV.out j (by rw [HL.out]; exact hjn)
      obtain ⟨x, hx⟩ : ∃ x, zs.getD j 0 = x := ⟨_, rfl⟩
      rw [hx] at hy
      obtain ⟨T, hT⟩ : ∃ T, sortI (zs.take j) = T := ⟨_, rfl⟩
      have hTs : T.Pairwise (· ≤ ·) := by rw [← hT]; exact sortI_sorted _
      have hTl : T.length = j := by rw [← hT, sortI_len, List.length_take, HL.out]; omega
      have hT2 : sortI (zs.take (j + 1)) = ins x T := by
        rw [List.take_succ_eq_append_getElem (by rw [HL.out]; exact hjn), sortI_snoc, hT, ← hx, List.getD_eq_getElem?_getD, List.getElem?_eq_getElem (by rw [HL.out]; exact hjn)]
        rfl
      have HT : Hid (T.Pairwise (· ≤ ·) ∧ T.length = j ∧ sortI (zs.take (j + 1)) = ins x T) := ⟨hTs, hTl, hT2⟩
      rw [hT] at hN
      rw [hTl] at hN
      have HNj : Hid (New w T (.slice xa j xc) wr) := hN
      have HY : Hid (∀ W, Chg no w W → W.cell? (y.add j) = some (.int .i64 x)) := fun W k => k.cell hy (fun h => h)
      rw [hT, hTl]
      clear hx hT hTs hTl hT2 hN hy
      obtain ⟨wo, hwo⟩ : ∃ W, W = wr := ⟨_, rfl⟩
      subst hwo
      go_upto_block 2 with fail
      go_cut [5] from 14 to 29 (fun k wd => k = .int .i64 (posI x T : Int) ∧ Chg no wo wd)
      case first =>
        go_wp2_with fail
        go_loopw [5] (fun k wi => ∃ kk : Nat, kk ≤ j ∧ k = .int .i64 (kk : Int) ∧ Chg no wo wi ∧ ∀ p, kk ≤ p → p < j → x < T.getD p 0) (fun k _ => (intOf k).toNat)
        case atStart => exact ⟨j, by omega, rfl, Chg.refl no _, fun p h1 h2 => by omega⟩
        case round =>
          obtain ⟨kk, hkj, rfl, kC, hgt⟩ := hrel
          have HC : Hid (Chg no wo wr) := kC
          have HG : Hid (∀ p, kk ≤ p → p < j → x < T.getD p 0) := hgt
          have HNr := HNj.out.chg kC
          have hyr := HY.out wr HNr.2
          clear hgt
          by_cases hk0 : 0 < kk
          · have hki : (0 : Int) < kk := by omega
            have hd0 : decide ((kk : Int) > 0) = true := by simp; omega
            obtain ⟨u, hu⟩ : ∃ u, T.getD (kk - 1) 0 = u := ⟨_, rfl⟩
            obtain ⟨g, rfl, _, c1, _⟩ := owns_at (k := kk - 1) (u := .int .i64 u) (by have := HNr.1; rw [HT.out.2.1] at this; exact this) (by rw [List.getElem?_map, ← hu, List.getD_eq_getElem?_getD, List.getElem?_eq_getElem (by rw [HT.out.2.1]; omega)]; rfl)
            have wr1 : IntKind.i64.wrap ((kk : Int) - 1) = (kk : Int) - 1 := by rw [IntKind.wrap_i64]; omega
            have tn1 : ((kk : Int) - 1).toNat = kk - 1 := by omega
            have lt1 : (kk : Int) - 1 < j := by omega
            have nn1 : (0 : Int) ≤ (kk : Int) - 1 := by omega
            by_cases hux : x < u
            · have hd : decide (u > x) = true := by simpa using hux
              have HU : Hid (T.getD (kk - 1) 0 = u) := hu
              clear kC HNr hu
              go_wp2_with fail
              go_quiet (fail)
              go_wp2
              go_roundw
              case rel =>
                refine ⟨kk - 1, by omega, by go_num, HC.out.drewN _, fun p h1 h2 => ?_⟩
                by_cases e : kk ≤ p
                · exact HG.out p e h2
                · obtain rfl : p = kk - 1 := by omega
                  rw [HU.out]
                  exact hux
              case measure => simp [intOf]; omega
            · have hd : decide (u > x) = false := by simp; omega
              have hpos : Hid (posI x T = kk) := posI_of x T kk HT.out.1 (by rw [HT.out.2.1]; exact hkj) (fun p h1 h2 => HG.out p h1 (by rw [HT.out.2.1] at h2; exact h2)) (.inr (by rw [hu]; omega))
              clear kC HNr hu
              go_wp2_with fail
              go_quiet (fail)
              go_wp2
              go_meet
              case rel => exact ⟨by first | rw [hpos.out] | (rw [hpos.out]; rfl), HC.out.drewN _⟩
          · obtain rfl : kk = 0 := by omega
            have hd0 : decide ((0 : Int) > 0) = false := by decide
            have hpos : Hid (posI x T = 0) := posI_of x T 0 HT.out.1 (by omega) (fun p h1 h2 => HG.out p h1 (by rw [HT.out.2.1] at h2; exact h2)) (.inl rfl)
            clear kC HNr
            go_wp2_with fail
            go_quiet (fail)
            go_wp2
            go_meet
            case rel => exact ⟨by first | rw [hpos.out] | (rw [hpos.out]; rfl), HC.out.drewN _⟩
      case rest =>
        obtain ⟨rfl, kd⟩ := hcut
        obtain ⟨P, hP⟩ : ∃ P, posI x T = P := ⟨_, rfl⟩
        have HP : Hid (posI x T = P) := hP
        rw [hP]
        have hPj : P ≤ j := by have := posI_le x T; rw [hP, HT.out.2.1] at this; exact this
        obtain ⟨wB, hwB⟩ : ∃ W, W = wc := ⟨_, rfl⟩
        subst hwB
        have HNB : Hid (New w T (.slice xa j xc) wB) := HNj.out.chg kd
        have hyB := HY.out wB HNB.out.2
        clear kd hP
        have HYB : Hid (∀ W, Chg no w W → W.cell? (y.add j) = some (.int .i64 x)) := HY.out
        have HwB : Hid (Chg no w wB) := HNB.out.2
        have HM1 : Hid (∀ W, Chg no (wB.alloc (.cells #[.int .i64 x] 3)) W → Fresh 3 1 wB W (.slice (some ⟨wB.heap.size, 0, none⟩) 1 1) 1 [.int .i64 x]) := fun W k => Fresh.same (New.built wB wB (Chg.refl no wB) [x] (by unfold maxLen; simp)) k
        have HLn : Hid (((T.drop P).map (Value.int .i64)).length = (j - P) * 1 ∧ ([Value.int .i64 x] ++ (T.drop P).map (Value.int .i64)).length = (1 + (j - P)) * 1) := ⟨by rw [List.length_map, List.length_drop, HT.out.2.1]; omega, by rw [List.length_append, List.length_map, List.length_drop, HT.out.2.1]; simp⟩
        have HOne : Hid ((∀ u ∈ (T.drop P).map (Value.int .i64), u.oneCell' = true) ∧ ∀ u ∈ [Value.int .i64 x] ++ (T.drop P).map (Value.int .i64), u.oneCell' = true) := ⟨ones _, ones (x :: T.drop P)⟩
        have hb1 : 1 + (j - P) ≤ maxLen := by unfold maxLen; omega
        have hb2 : (1 + (j - P)) * 8 ≤ 140737488355328 := by omega
        have hb3 : j + 1 ≤ maxLen := by unfold maxLen; omega
        have hb4 : (j + 1) * 8 ≤ 140737488355328 := by omega
        have hN2 : P + (1 + (j - P)) = j + 1 := by omega
        have hPi : (P : Int) ≤ (j : Int) := by omega
        have HRel : Hid (∀ b c W, Fresh 3 1 w W (.slice b (j + 1) c) (j + 1) ((T.take P).map (Value.int .i64) ++ ([Value.int .i64 x] ++ (T.drop P).map (Value.int .i64))) → New w (sortI (zs.take (j + 1))) (.slice b (j + 1) c) W) := by
          intro b c W f
          have e : (sortI (zs.take (j + 1))).map (Value.int .i64) = (T.take P).map (Value.int .i64) ++ ([Value.int .i64 x] ++ (T.drop P).map (Value.int .i64)) := by rw [HT.out.2.2, ins_eq, HP.out]; simp
          have e2 : (sortI (zs.take (j + 1))).length = j + 1 := by rw [sortI_len, List.length_take, HL.out]; omega
          unfold New
          rw [e, e2]
          exact f
        have hcx : j ≤ xc := by
          rcases HNB.out.1.2 with ⟨hv, h0⟩ | ⟨g, cap, cur, hv, _, _, h1, _⟩
          · simp only [Value.slice.injEq] at hv
            rw [HT.out.2.1] at h0
            omega
          · simp only [Value.slice.injEq] at hv
            rw [HT.out.2.1] at h1
            omega
        have hcm : xc ≤ maxLen := by
          rcases HNB.out.1.2 with ⟨hv, h0⟩ | ⟨g, cap, cur, hv, _, _, _, h2, _⟩
          · simp only [Value.slice.injEq] at hv
            unfold maxLen
            omega
          · simp only [Value.slice.injEq] at hv
            omega
        have hci : (xc : Int) ≤ 9223372036854775807 := by unfold maxLen at hcm; omega
        have hPc : (P : Int) ≤ (xc : Int) := by omega
        clear hcm
        by_cases hcap : xc = P
        · have hjP : j = P := by omega
          have hjc : j = xc := by omega
          subst hjP
          subst hjc
          have hz0' : j - j = 0 := Nat.sub_self j
          have HF : Hid (∀ W, Chg no wB W → Fresh 3 1 w W (.slice xa j j) j ((T.take j).map (Value.int .i64))) := fun W k => by
            exact (HNB.out.chg k).front j (by rw [HT.out.2.1]; exact hPj)
          have HRs : Hid (∀ W, Chg no wB W → Lie (fun _ => True) W (.slice xa 0 0) (j - j) ((T.drop j).map (Value.int .i64))) := fun W k => by
            rw [List.drop_of_length_le (by rw [HT.out.2.1]; omega), Nat.sub_self]
            exact lie_none _ _ _ _ (fun _ => rfl)
          clear HNB
          go_wp2_with fail
          (first
            | go_region_held_law (fun W => W.cell? (y.add j) = some (.int .i64 x)) (first | exact HYB.out _ F6.out.2 | exact HYB.out _ (HwB.out.then F5.out.2) | exact HYB.out _ ((HwB.out.alloc _).drew) | exact HYB.out _ (HwB.out.drew.alloc _) | exact HYB.out _ HwB.out.drew | go_keep)
             (first
              | (refine step_fresh rfl (.tmp 37) (.tmp 40) 22 rfl 3 i0 (.int .i64 0) 1 8 Try.underlying22 hi0 hz0 hz1 hz2 rfl (by decide) (.slice (some ⟨wB.heap.size, 0, none⟩) 1 1) 1 [.int .i64 x] (by simp [Act.eval, Act.put]) (HM1.out _ (by first | exact (Chg.refl no _).drew | exact Chg.refl no _)) _ (.slice xa 0 0) (j - j) ((T.drop j).map (Value.int .i64)) (by simp [Act.eval, Act.put]) (HRs.out _ (by first | exact ((Chg.refl no wB).alloc _).drew | exact (Chg.refl no wB).alloc _ | exact (Chg.refl no wB).drew.alloc _)) HLn.out.1 HOne.out.1 (1 + (j - j)) rfl hb1 hb2 ?_; intro b5 c5 w5 F5 _)
              | (refine step_fresh rfl (.tmp 32) (.tmp 41) 22 rfl 3 i0 (.int .i64 0) 1 8 Try.underlying22 hi0 hz0 hz1 hz2 rfl (by decide) (.slice xa j j) j ((T.take j).map (Value.int .i64)) (by simp [Act.eval, Act.put]) (HF.out _ F5.out.2) (fun _ => True) (.slice b5 (1 + (j - j)) c5) (1 + (j - j)) _ (by simp [Act.eval, Act.put]) (Lie.of_owns F5.out.1 (fun _ _ => trivial)) HLn.out.2 HOne.out.2 (j + 1) hN2 hb3 hb4 ?_; intro b6 c6 w6 F6 _))
            | fail)
          all_goals (go_wp2; go_roundw)
          case rel => exact ⟨j + 1, by omega, by go_num, HRel.out _ _ _ F6.out⟩
          case measure => simp [intOf]; omega
        · obtain ⟨g, rfl⟩ : ∃ g, xa = some ⟨g, 0, none⟩ := by
            rcases HNB.out.1.2 with ⟨hv, h0⟩ | ⟨g, cap, cur, hv, _⟩
            · simp only [Value.slice.injEq] at hv
              rw [HT.out.2.1] at h0
              omega
            · simp only [Value.slice.injEq] at hv
              exact ⟨g, hv.1⟩
          have HF : Hid (∀ W, Chg no wB W → Fresh 3 1 w W (.slice (some ⟨g, 0, none⟩) P xc) P ((T.take P).map (Value.int .i64))) := fun W k => by
            exact (HNB.out.chg k).front P (by rw [HT.out.2.1]; exact hPj)
          have HRs : Hid (∀ W, Chg no wB W → Lie (fun _ => True) W (.slice (some ⟨g, P, none⟩) (j - P) (xc - P)) (j - P) ((T.drop P).map (Value.int .i64))) := fun W k => by
            exact HNB.out.rest k P (j - P) (xc - P) (by rw [HT.out.2.1])
          clear HNB
          go_wp2_with fail
          (first
            | go_region_held_law (fun W => W.cell? (y.add j) = some (.int .i64 x)) (first | exact HYB.out _ F6.out.2 | exact HYB.out _ (HwB.out.then F5.out.2) | exact HYB.out _ ((HwB.out.alloc _).drew) | exact HYB.out _ (HwB.out.drew.alloc _) | exact HYB.out _ HwB.out.drew | go_keep)
             (first
              | (refine step_fresh rfl (.tmp 37) (.tmp 40) 22 rfl 3 i0 (.int .i64 0) 1 8 Try.underlying22 hi0 hz0 hz1 hz2 rfl (by decide) (.slice (some ⟨wB.heap.size, 0, none⟩) 1 1) 1 [.int .i64 x] (by simp [Act.eval, Act.put]) (HM1.out _ (by first | exact (Chg.refl no _).drew | exact Chg.refl no _)) _ (.slice (some ⟨g, P, none⟩) (j - P) (xc - P)) (j - P) ((T.drop P).map (Value.int .i64)) (by simp [Act.eval, Act.put]) (HRs.out _ (by first | exact ((Chg.refl no wB).alloc _).drew | exact (Chg.refl no wB).alloc _ | exact (Chg.refl no wB).drew.alloc _)) HLn.out.1 HOne.out.1 (1 + (j - P)) rfl hb1 hb2 ?_; intro b5 c5 w5 F5 _)
              | (refine step_fresh rfl (.tmp 32) (.tmp 41) 22 rfl 3 i0 (.int .i64 0) 1 8 Try.underlying22 hi0 hz0 hz1 hz2 rfl (by decide) (.slice (some ⟨g, 0, none⟩) P xc) P ((T.take P).map (Value.int .i64)) (by simp [Act.eval, Act.put]) (HF.out _ F5.out.2) (fun _ => True) (.slice b5 (1 + (j - P)) c5) (1 + (j - P)) _ (by simp [Act.eval, Act.put]) (Lie.of_owns F5.out.1 (fun _ _ => trivial)) HLn.out.2 HOne.out.2 (j + 1) hN2 hb3 hb4 ?_; intro b6 c6 w6 F6 _))
            | fail)
          all_goals (go_wp2; go_roundw)
          case rel => exact ⟨j + 1, by omega, by go_num, HRel.out _ _ _ F6.out⟩
          case measure => simp [intOf]; omega
    · obtain rfl : j = n := by omega
      have hji : (j : Int) ≤ j := by omega
      have HN : Hid (New w (sortI zs) (.slice xa (sortI (zs.take j)).length xc) wr) := by
        have e : zs.take j = zs := by rw [← HL.out, List.take_length]
        rw [e] at hN ⊢
        exact hN
      clear hN
      go_wp2
      go_ret
      exact ⟨_, rfl, HN.out⟩

end Go.Proofs.Ytkaohjlnlgennaa.st
