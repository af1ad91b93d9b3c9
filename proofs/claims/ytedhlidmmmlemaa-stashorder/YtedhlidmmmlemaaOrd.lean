/-
  Proved: for all blocks and every turn the law StashOrder returns true; no condition.
-/
import Derived.Test.YtedhlidmmmlemaaLoc
import Derived.Test.YtedhlidmmmlemaaDuo
import Derived.Test.YtedhlidmmmlemaaRows
import Derived.Deep.CutBlock
import Derived.Deep.RegionHeldLaw
namespace Go.Proofs.Ytedhlidmmmlemaa.stashOrder
open Go.ChangeShapes Go.WideShapes Go.ChangeAt Go.RowKit Go.Proofs.Ytedhlidmmmlemaa.hp Go.Proofs.Ytedhlidmmmlemaa.st
set_option linter.unusedVariables false
set_option linter.unusedSimpArgs false

set_option maxRecDepth 100000 in
set_option maxHeartbeats 16000000 in
theorem walk (w : World) (a1 : Option Addr) (n c1 : Nat) (xs : List BV) (t : Int) (hO : xs.length = n ∧ Bks w (.slice a1 n c1) xs) (kk : n ≤ c1 ∧ c1 ≤ maxLen) (ht : (Lit.int .i64 t).wf = true) :
    Calls Try.prog 5 #[.slice a1 n c1, .int .i64 t] w fun e w' => e = .returned (.bool true) ∧ Below w.heap.size w w' := by
  have HF := first_any
  obtain ⟨hn, hb⟩ := hO
  have HO : Hid (Bks w (.slice a1 n c1) xs) := hb
  have HL : Hid (xs.length = n) := hn
  have hmi : (n : Int) ≤ 9223372036854775807 := by have := kk.2; have := kk.1; unfold maxLen at *; omega
  obtain ⟨i0, hi, hz0, hz1, hz2⟩ := info_parts' info36
  clear hb kk ht hn
  go_enter Try.func5, Try.ntmps5
  go_wp2_with fail
  refine (HF w).mono ?_
  rintro e w1 ⟨rfl, k1⟩
  have HFew := few_any w1 (.slice a1 n c1) xs (HO.out.later k1)
  rw [HL.out] at HFew
  have K1 : Hid (Chg no w w1) := k1
  clear k1
  go_wp2_with fail
  refine HFew.mono ?_
  rintro e w2 ⟨b, rfl, hfew, rfl⟩
  cases b
  case false =>
    go_wp2_with fail
    refine (HF _).mono ?_
    rintro e w4 ⟨rfl, k4⟩
    go_wp2
    go_ret
    exact ⟨rfl, (K1.out.then k4).below⟩
  have hm200 := hfew rfl
  have i3 : (n : Int) ≤ 200 := by omega
  clear hfew hmi HFew
  by_cases h60 : n ≤ 60
  case neg =>
    have hd : decide ((n : Int) > 60) = true := by simp; omega
    go_wp2_with fail
    refine (HF _).mono ?_
    rintro e w4 ⟨rfl, k4⟩
    go_wp2
    go_ret
    exact ⟨rfl, (K1.out.then k4).below⟩
  have hd : decide ((n : Int) > 60) = false := by simp; omega
  have HMay := may_any w2 (.slice a1 n c1) xs (HO.out.later K1.out) (by rw [HL.out]; omega)
  go_wp2_with fail
  obtain ⟨R, hR⟩ : ∃ R, mayL (abs xs) = R := ⟨_, rfl⟩
  rw [hR] at HMay
  refine HMay.mono ?_
  rintro e w3 ⟨rfl, k3⟩
  have K3 : Hid (Chg no w w3) := K1.out.then k3
  clear HMay k3 K1
  cases R
  case false =>
    go_wp2_with fail
    refine (HF _).mono ?_
    rintro e w4 ⟨rfl, k4⟩
    go_wp2
    go_ret
    exact ⟨rfl, (K3.out.then k4).below⟩
  by_cases h0 : t < 0
  · have hd0 : decide (t < 0) = true := by simpa using h0
    go_wp2_with fail
    refine (HF _).mono ?_
    rintro e w4 ⟨rfl, k4⟩
    go_wp2
    go_ret
    exact ⟨rfl, (K3.out.then k4).below⟩
  have hd0 : decide (t < 0) = false := by simpa using h0
  have h0' : 0 ≤ t := by omega
  have HP : Hid (mayP (abs xs)) := (of_decide_eq_true hR : mayP (abs xs))
  clear hR h0 hm200
  go_wp2_with fail
  obtain ⟨K, hK⟩ : ∃ K, (t % (n : Int)).toNat = K := ⟨_, rfl⟩
  obtain ⟨RR, hRR⟩ : ∃ RR, xs.drop K ++ xs.take K = RR := ⟨_, rfl⟩
  have hRl : RR.length = n := by rw [← hRR, List.length_append, List.length_drop, List.length_take, HL.out]; omega
  have HRL : Hid (RR.length = n) := hRl
  have HRP : Hid (xs.Perm RR) := by rw [← hRR]; exact rot_perm xs K
  have HKK : Hid (∀ k, k < n → t % (n : Int) = (K : Int) ∧ K < n ∧ RR.getD k dBV = xs.getD ((k + K) % n) dBV) := by
    intro k hk
    have e1 := Int.emod_nonneg t (show (n : Int) ≠ 0 by omega)
    have e2 := Int.emod_lt_of_pos t (show (0 : Int) < n by omega)
    have e3 : K < n := by omega
    refine ⟨by omega, e3, ?_⟩
    rw [← hRR, ← HL.out]
    exact rot_get xs dBV K (by rw [HL.out]; exact e3) k (by rw [HL.out]; exact hk)
  clear hK hRR hRl
  go_loopw [5, 6] (fun u i wr => ∃ k : Nat, k ≤ n ∧ i = .int .i64 (k : Int) ∧ NewB 36 no w3 (Old w3) (RR.take k) u wr) (fun _ i _ => n - (intOf i).toNat)
  case atStart => exact ⟨0, by omega, rfl, oldW_start w3⟩
  case round =>
    obtain ⟨k, hk, rfl, hN⟩ := hrel
    by_cases hkn : k < n
    · have hki : (k : Int) < n := by omega
      obtain ⟨kt, kl, kg⟩ := HKK.out k hkn
      have hkl : k < RR.length := by rw [HRL.out]; exact hkn
      obtain ⟨j, hj⟩ : ∃ j, (k + K) % n = j := ⟨_, rfl⟩
      have hjn : j < n := by rw [← hj]; exact Nat.mod_lt _ (by omega)
      have hji : (j : Int) < n := by omega
      have hrm : ((k : Int) + (K : Int)) % (n : Int) = (j : Int) := by rw [← hj, Int.natCast_emod, Int.natCast_add]
      rw [hj] at kg
      obtain ⟨y, ab, cb, rfl, e0, e1, hv, dl, db, o1, n1⟩ := (HO.out.later (K3.out.then hN.chg)).at j (by rw [HL.out]; exact hjn)
      obtain ⟨a', c', m, XS, rfl, hm, ho, hadd⟩ := hN.ready
      have hml : m ≤ k := by rw [hm, List.length_take]; omega
      have HE : Hid (RR.take (k + 1) = RR.take k ++ [RR.getD k dBV]) := take_snoc RR k dBV hkl
      have dl0 : Lies (Old w3) w3 (xs.getD j dBV).v ((xs.getD j dBV).d.map (Value.int .u8)) ∧ Bytes (xs.getD j dBV).d := by
        have hjl : j < xs.length := by rw [HL.out]; exact hjn
        obtain ⟨q1, q2⟩ := HO.out.dat (xs.getD j dBV) (by rw [List.getD_eq_getElem?_getD, List.getElem?_eq_getElem hjl]; exact List.getElem_mem _)
        exact ⟨Lies.later q1 K3.out, q2⟩
      rw [kg] at HE
      obtain ⟨⟨i1, v1, d1⟩, hx1⟩ : ∃ X, xs.getD j dBV = X := ⟨_, rfl⟩
      rw [hx1] at e0 e1 hv HE dl db dl0
      simp only at e0 e1 hv dl db dl0
      subst hv
      have HO2 : Hid (∀ W, Chg no wr W → W.ownsRow 0 36 2 (.slice a' m c') m XS) := ho
      have HAD : Hid (∀ W v' w4, Chg no wr W → w4.ownsRow 0 36 2 v' (m + 1) (XS ++ [.int .i64 i1, .slice ab d1.length cb]) → W.grownBy w4 (Value.slice a' m c').ownBlock → (∀ b, v'.ownBlock = some b → (Value.slice a' m c').ownBlock = some b ∨ W.heap.size ≤ b) → NewB 36 no w3 (Old w3) (RR.take (k + 1)) v' w4) := by
        intro W v' w4 KK o g p
        rw [HE.out]
        exact hadd ⟨i1, .slice ab d1.length cb, d1⟩ (Old w3) W v' w4 KK (dl0.1.chg (hN.chg.then KK) (fun _ _ h => h)) dl0.2 (fun _ h => h) (fun _ h => .inl h) o g p
      have wk : IntKind.i64.wrap ((k : Int) + (K : Int)) = (k : Int) + (K : Int) := by rw [IntKind.wrap_i64]; omega
      have tj : ((j : Int)).toNat = j := by omega
      have hnz : ((n : Int) == 0) = false := by simp; omega
      clear hadd ho dl db dl0 hm hN HE hx1 hj
      go_wp2_with (at_builtin; refine wpList_append_at rfl (.tmp 39) (.tmp 52) 22 rfl 36 i0 bz 2 32 Try.underlying22 hi hz0 hz1 hz2 rfl (by decide) (.slice a' m c') m XS rfl (HO2.out _ ((Chg.refl no wr).alloc _)) ⟨wr.heap.size, 0, none⟩ 1 1 [.int .i64 i1, .slice ab d1.length cb] rfl rfl news_at (one_b _ _ _ _) (by unfold maxLen; omega) (by omega) ?_)
      intro v5 w5 o5 g5 n5
      have N5 := HAD.out _ v5 w5 ((Chg.refl no wr).alloc _) o5 g5 (by intro b hb; rcases n5 b hb with h | h; exact .inl h; exact .inr (by simpa using h))
      obtain ⟨a5, c5, rfl⟩ := owns_shape o5
      have HN5 : Hid (NewB 36 no w3 (Old w3) (RR.take (k + 1)) (.slice a5 (m + 1) c5) w5) := N5
      clear o5 g5 n5 N5
      go_wp2
      go_roundw
      case rel => exact ⟨k + 1, by omega, by go_num, HN5.out⟩
      case measure => simp [intOf]; omega
    · obtain rfl : k = n := by omega
      have hki : (k : Int) ≤ k := by omega
      have hZ := hN
      rw [List.take_of_length_le (by rw [HRL.out]; omega)] at hZ
      obtain ⟨a5, c5, rfl⟩ := hZ.shape
      rw [HRL.out] at hZ
      have HZ : Hid (NewB 36 no w3 (Old w3) RR (.slice a5 k c5) wr) := hZ
      clear hN hZ
      rw [HRL.out]
      go_wp2_with fail
      have HA := new_any wr (.slice a1 k c1) xs (HO.out.later (K3.out.then HZ.out.chg)) (by rw [HL.out]; omega)
      refine HA.mono ?_
      rintro e w4 ⟨p, F, rfl, S4, hF4, k4⟩
      clear HA
      go_wp2_with fail
      have HB := new_any w4 (.slice a5 k c5) RR (HZ.out.bks.later k4) (by rw [HRL.out]; omega)
      refine HB.mono ?_
      rintro e w5 ⟨q, G, rfl, S5, hG5, k5⟩
      have HTwo := two_new (K3.out.then HZ.out.chg) S4 hF4 k4 S5 hG5 k5
      have hnp : newS (abs xs) = newS (abs RR) := new_perm HP.out (HRP.out.map BV.bk)
      obtain ⟨n1, n2, n3, n4⟩ := new_all HP.out
      have hal : (abs xs).length = k := by rw [abs_len, HL.out]
      rw [← hnp] at HTwo
      rw [n2, hal] at HTwo
      rw [hal] at n3
      obtain ⟨LL, hLL⟩ : ∃ LL, (newS (abs xs)).1 = LL := ⟨_, rfl⟩
      rw [hLL] at HTwo n1 n3
      have HOK : Hid (okL LL ∧ LL.length = k) := ⟨n1, n3⟩
      have HT5 : Hid (Two w p q LL LL k k w5) := HTwo
      have HLen := HTwo.len
      rw [n3] at HLen
      have HMost := HTwo.most
      clear HB S4 hF4 k4 S5 hG5 k5 HTwo hnp n1 n2 n3 n4 hal hLL HRL HRP HKK HP HZ K3 HL HO hi hz0 hz1 hz2
      go_wp2_with fail
      refine HLen.mono ?_
      rintro e w6 ⟨rfl, rfl⟩
      clear HLen
      go_wp2_with fail
      refine HMost.mono ?_
      rintro e w6' ⟨rfl, rfl⟩
      have HA1 := HT5.out.all1
      clear HMost HT5
      go_wp2_with fail
      refine HA1.mono ?_
      rintro e w7 ⟨b1, d1, ys1, rfl, ha1, hb1, T7⟩
      have HA2 := T7.all2
      clear HA1 T7
      go_wp2_with fail
      refine HA2.mono ?_
      rintro e w8 ⟨b2, d2, ys2, rfl, ha2, hb2, k8, T8⟩
      have HS := same_any w8 _ _ ys1 ys2 (hb1.later k8) hb2 (by have := abs_len ys1; rw [ha1, HOK.out.2] at this; omega) (by have := abs_len ys2; rw [ha2, HOK.out.2] at this; omega)
      have hs : sameL (abs ys1) (abs ys2) = true := by rw [ha1, ha2]; exact decide_eq_true rfl
      rw [hs] at HS
      have HT8 : Hid (Two w p q LL LL k k w8) := T8
      clear HA2 hb1 hb2 k8 T8 ha1 ha2 hs
      go_wp2_with fail
      refine HS.mono ?_
      rintro e w9 ⟨rfl, k9⟩
      have HI := (HT8.out.same k9).idsI
      rw [HOK.out.2] at HI
      clear HS HT8 k9
      go_wp2_with fail
      refine HI.mono ?_
      rintro e w10 ⟨ia, ic, F0, rfl, hix, T10⟩
      have HIX : Hid (∀ W, Chg F0 w10 W → ∀ j, j < k → ∃ y, ia = some y ∧ W.cell? (y.add j) = some (.int .i64 ((LL.map (·.1)).getD j 0)) ∧ y.block < w10.heap.size) := hix
      have HT10 : Hid (Twi w w10 F0 p q LL LL k k w10) := T10
      clear HI hix T10
      go_wp2_with fail
      go_loopw [10] (fun i wr => ∃ j : Nat, j ≤ k ∧ i = .int .i64 (j : Int) ∧ Twi w w10 F0 p q LL LL k k wr) (fun i _ => k - (intOf i).toNat)
      case atStart => exact ⟨0, by omega, rfl, HT10.out⟩
      case round =>
        clear HT10
        obtain ⟨j, hj, rfl, hT⟩ := hrel
        have HTW : Hid (Twi w w10 F0 p q LL LL k k wr) := hT
        by_cases hjk : j < k
        · have hji : (j : Int) < k := by omega
          obtain ⟨y, rfl, d0, hyb⟩ := HIX.out wr hT.chg j hjk
          have hhas := has_of_get HOK.out.1.1 j (by rw [HOK.out.2]; exact hjk)
          obtain ⟨id, hid⟩ : ∃ id, (LL.map (·.1)).getD j 0 = id := ⟨_, rfl⟩
          rw [hid] at d0 hhas
          have HD : Hid (∀ W, Chg F0 w10 W → W.cell? (y.add j) = some (.int .i64 id) ∧ (y.add j).block < w10.heap.size) := by
            intro W kW
            obtain ⟨y', e', d, hb⟩ := HIX.out W kW j hjk
            obtain rfl : y = y' := by injection e'
            rw [hid] at d
            exact ⟨d, by rw [add_block]; exact hb⟩
          have HTk := hT.take id
          obtain ⟨pb1, pb2, _⟩ := put_back HOK.out.1 hhas
          obtain ⟨ps1, ps2⟩ := put_back_s (m := k) HOK.out.1 (by rw [HOK.out.2]; omega) hhas
          have hby : Bytes (getL LL id).2 := by
            obtain ⟨z1, z2⟩ := has_at hhas
            have e : getL LL id = LL.getD (posL LL id) dBk := by unfold getL; rw [if_pos hhas]
            rw [e]
            exact hT.two.bytes _ (getD_mem z1)
          have hnd := has_del HOK.out.1.1 id
          obtain ⟨⟨gi, gd⟩, hG⟩ : ∃ G, getL LL id = G := ⟨_, rfl⟩
          rw [hG] at HTk pb1 pb2 ps1 ps2 hby
          rw [hhas] at HTk
          simp only at pb2 hby
          subst pb2
          obtain ⟨L2, hL2⟩ : ∃ L2, delL LL gi = L2 := ⟨_, rfl⟩
          rw [hL2] at HTk ps1 ps2 hnd
          obtain ⟨gl, hgl⟩ : ∃ gl, gd.length = gl := ⟨_, rfl⟩
          simp only [hgl] at HTk
          have HB : Hid (Bytes gd ∧ gd.length = gl ∧ decide (okB (gi, gd)) = true ∧ putA L2 (gi, gd) = LL ∧ mostA L2 k (gi, gd) = k ∧ hasL L2 gi = false) := ⟨hby, hgl, decide_eq_true pb1, ps1, ps2, hnd⟩
          clear hT hid hhas pb1 ps1 ps2 hby hnd hG hL2 hgl
          go_wp2_with fail
          refine HTk.mono ?_
          rintro e w11 ⟨ta, tc, rfl, hl11, T11⟩
          have d1 := (HD.out w11 T11.chg).1
          have d2 := (HD.out w11 T11.chg).2
          have d3 := T11.chg.size
          have hq : (y.add j).block ≠ w11.heap.size := by omega
          have HHas : Hid (∀ W, Chg no w11 W → Calls Try.prog 18 #[pt p, .int .i64 gi] W fun e w' => e = .returned (.bool false) ∧ Chg no w11 w' ∧ w'.cell? (y.add j) = some (.int .i64 gi) ∧ ∀ o, W.heap[w11.heap.size]? = some o → w'.heap[w11.heap.size]? = some o) := by
            intro W kW
            have := (T11.same kW).two.has gi
            rw [HB.out.2.2.2.2.2] at this
            refine this.mono ?_
            rintro e w' ⟨rfl, T, kk⟩
            exact ⟨rfl, kW.then kk, (HD.out w' ((T11.same kW).same kk).chg).1, fun o ho => kk.heap ho (fun h => h)⟩
          have HPut : Hid (∀ W, Chg no w11 W → Calls Try.prog 12 #[pt p, bv gi ta gl tc] W fun e w' => e = .returned (.bool true) ∧ Twi w w10 F0 p q LL LL k k w' ∧ w'.cell? (y.add j) = some (.int .i64 gi) ∧ ∀ o, W.heap[w11.heap.size]? = some o → w'.heap[w11.heap.size]? = some o) := by
            intro W kW
            have := T11.putl gi ta gl tc gd hl11 HB.out.1 HB.out.2.1 W kW
            rw [HB.out.2.2.1, HB.out.2.2.2.1, HB.out.2.2.2.2.1] at this
            refine this.mono ?_
            rintro e w' ⟨rfl, T, hs⟩
            exact ⟨rfl, T, (HD.out w' T.chg).1, fun o ho => hs _ o (Nat.le_refl _) ho⟩
          have qq : (w11.alloc (.cells #[.int .i64 gi, .slice ta gl tc] 36)).cell? ⟨w11.heap.size, 0, none⟩ = some (.int .i64 gi) ∧ (w11.alloc (.cells #[.int .i64 gi, .slice ta gl tc] 36)).cell? ⟨w11.heap.size, 1, none⟩ = some (.slice ta gl tc) ∧ (w11.alloc (.cells #[.int .i64 gi, .slice ta gl tc] 36)).cell? (y.add j) = some (.int .i64 gi) :=
            ⟨(row_cell (xs := [_, _]) (heap_alloc_new w11 _) 0 _ rfl).1, (row_cell (xs := [_, _]) (heap_alloc_new w11 _) 1 _ rfl).1, ((Chg.refl no w11).alloc _).cell d1 (fun h => h)⟩
          have hgg : (gi != gi) = false := by simp
          clear HTk hl11 T11 HD HB HTW d0 hyb d2 d3 HIX
          go_wp2_with fail
          (first
            | go_region_held_law (fun w' => w'.cell? ⟨w11.heap.size, 0, none⟩ = some (.int .i64 gi) ∧ w'.cell? ⟨w11.heap.size, 1, none⟩ = some (.slice ta gl tc) ∧ w'.cell? (y.add j) = some (.int .i64 gi)) (first | exact ⟨v0, v1, v2⟩ | exact ⟨u0, u1, u2⟩ | exact qq | go_keep)
                (first
                  | (go_at_call 18; refine (HHas.out _ ?_).mono ?_; exact ((Chg.refl no w11).alloc _).drew; rintro e w12 ⟨rfl, K12, u2, hk⟩; have b12 := hk _ (heap_alloc_new w11 (.cells #[.int .i64 gi, .slice ta gl tc] 36)); clear hk; have u0 := (row_cell (xs := [_, _]) b12 0 _ rfl).1; have u1 := (row_cell (xs := [_, _]) b12 1 _ rfl).1)
                  | (go_at_call 12; refine (HPut.out _ K12).mono ?_; rintro e w13 ⟨rfl, T13, v2, hk⟩; have b13 := hk _ b12; clear hk; have v0 := (row_cell (xs := [_, _]) b13 0 _ rfl).1; have v1 := (row_cell (xs := [_, _]) b13 1 _ rfl).1))
            | fail)
          all_goals go_wp2
          all_goals go_roundw
          all_goals first | exact ⟨j + 1, by omega, by go_num, T13⟩ | (simp [intOf]; omega)
        · obtain rfl : j = k := by omega
          have hji : (j : Int) ≤ j := by omega
          clear hT HIX
          go_wp2_with fail
          refine (HF _).mono ?_
          rintro e w11 ⟨rfl, k11⟩
          have HA1 := (HTW.out.two.same k11).all1
          clear HTW
          go_wp2_with fail
          refine HA1.mono ?_
          rintro e w12 ⟨b3, d3, ys1, rfl, ha1, hb1, T12⟩
          have HA2 := T12.all2
          clear HA1 T12 k11
          go_wp2_with fail
          refine HA2.mono ?_
          rintro e w13 ⟨b4, d4, ys2, rfl, ha2, hb2, k13, T13⟩
          have HS := same_any w13 _ _ ys1 ys2 (hb1.later k13) hb2 (by have := abs_len ys1; rw [ha1, HOK.out.2] at this; omega) (by have := abs_len ys2; rw [ha2, HOK.out.2] at this; omega)
          have hs : sameL (abs ys1) (abs ys2) = true := by rw [ha1, ha2]; exact decide_eq_true rfl
          rw [hs] at HS
          have HT13 : Hid (Two w p q LL LL j j w13) := T13
          clear HA2 hb1 hb2 k13 T13 ha1 ha2 hs
          go_wp2_with fail
          refine HS.mono ?_
          rintro e w14 ⟨rfl, k14⟩
          have HM := (HT13.out.same k14).most
          have HEnd : Hid (Chg no w w14) := HT13.out.chg.then k14
          clear HS HT13 k14
          go_wp2_with fail
          refine HM.mono ?_
          rintro e w15 ⟨rfl, rfl⟩
          clear HM
          go_wp2
          go_ret
          exact ⟨by simp, HEnd.out.below⟩

theorem own : ownKnob Try.prog.godebug = none := by kernel_rfl
theorem laidOut : laidOutB Try.prog = true := by kernel_rfl

set_option maxRecDepth 100000 in
theorem lifted (os : Os) (started : os.Started) (H : Type) (enc : TypeId × Value → H) :
    ReturnsInHanded {} Try.checked os 5 .any (Rows.stashOrderSpec.pre6 enc Try.prog Try.f5 Rows.stashOrderRow.domain false) (Rows.stashOrderSpec.post enc Try.prog Try.f5 false true false false) := by
  refine returnsInHanded_of_change (C := Try.checked) own started (by kernel_rfl) Try.func5
    (ChangeSpec.witness6 (enc := enc) (C := Try.checked) false ⟨#[], #[.slice none 0 0, .int .i64 0], []⟩ 8 (by kernel_rfl) (by kernel_rfl) (by kernel_rfl) (by kernel_rfl)) ?_
  intro W base args ds gs before hval0 hW hcnd _
  have hval : ∀ (j : Nat) t v, Try.f5.params[j]? = some t → args[j]? = some v → Value.okWide Try.prog W .any base t v := hval0
  have hW' := hW
  obtain ⟨p, q, hA0, hV, rfl, hfz, hnd⟩ := hW
  have hA : DataW.TrodAll enc Try.prog W 0 (fun _ => true) true Try.f5.params.toList args.toList ds p := hA0
  rw [Try.params5] at hA hval
  obtain ⟨v0, vs0, d0, ds0, p0, q0, hargs, rfl, rfl, h0, r0⟩ := trodAll_cons hA
  obtain ⟨v1, vs1, d1, ds1, p1, q1, rfl, rfl, rfl, h1, r1⟩ := trodAll_cons r0
  obtain ⟨rfl, rfl, rfl⟩ := trodAll_nil r1
  obtain rfl : args = #[v0, v1] := by cases args; simp_all
  obtain ⟨rfl, rfl⟩ := trodVars_none hV
  obtain ⟨a0, len0, cap0, rfl⟩ := okWide_slice Try.underlying22 (hval 0 22 v0 rfl rfl)
  have k0 := h0
  have lt0 : ∀ x ∈ p0, x.block < W.heap.size := by obtain ⟨m, hm⟩ := k0; exact DataW.trod_lt m _ _ _ hm
  have c0 : len0 ≤ cap0 ∧ cap0 ≤ maxLen := by obtain ⟨m, hm⟩ := k0; exact open_cap Try.underlying22 hm
  obtain ⟨z0, w0⟩ := (by obtain ⟨fuel, hf⟩ := h0; exact open_blocks hf : ∃ z : List BV, z.length = len0 ∧ Bks W (.slice a0 len0 cap0) z)
  obtain ⟨a1, rfl, rfl, rfl, w1⟩ := open_int Try.underlying3 (hval 1 3 v1 rfl rfl) h1
  clear hA0 hval0
  refine (walk W a0 len0 cap0 z0 a1 w0 c0 w1).mono fun e W' ⟨he, bel⟩ => ?_
  subst he
  exact ⟨_, rfl, _, _, _, [], _, [], hW', trodAll_mk1 (shut_bool Try.underlying4 _), (trodAll_cons_mk (Below.trod laidOut (by kernel_rfl) (of_decide_eq_true (by kernel_rfl)) k0 bel lt0) (trodAll_cons_mk (shut_int Try.underlying3 w1) trodAll_mk0)), rfl, bel.frame _, fun h => by cases h⟩

theorem over : Rows.stashOrderRow.holds Try.pinned (OpenSpec.ofChange Rows.stashOrderSpec) :=
  OpenClaim.holds_of_wide 5 Try.f5 rfl rfl rfl rfl rfl rfl rfl ⟨rfl, rfl, rfl, rfl, rfl⟩ rfl rfl rfl rfl rfl (by kernel_rfl) Try.func5 (by kernel_rfl)
    (of_decide_eq_true (by kernel_rfl)) (by unfold Func.isWrapper; first | (rw [if_pos (by decide +kernel)]; kernel_rfl) | (rw [if_neg (by decide +kernel)]; exact ⟨rfl, rfl⟩))
    (fun os started H enc _ => lifted os started H enc)

theorem proved : Rows.StashOrderSaid := over
end Go.Proofs.Ytedhlidmmmlemaa.stashOrder
namespace Go.Proofs.Ytedhlidmmmlemaa
theorem stashOrder_holds : Rows.StashOrderSaid := stashOrder.proved
#print axioms stashOrder_holds
end Go.Proofs.Ytedhlidmmmlemaa
