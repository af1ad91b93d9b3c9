/- The contract of the document's Plan. -/
import Derived.Test.YtkaohjlnlgennaaRst
import Derived.Test.YtkaohjlnlgennaaSrd
import Derived.Test.YtkaohjlnlgennaaLas
namespace Go.Proofs.Ytkaohjlnlgennaa.st
open Go.ChangeShapes Go.WideShapes Go.ChangeAt Go.RowKit Go.Proofs.Ytkaohjlnlgennaa.hp Go.Proofs.Ytkaohjlnlgennaa.tm Go.Proofs.Ytkaohjlnlgennaa.ev
set_option linter.unusedVariables false
set_option linter.unusedSimpArgs false

/-- What is through, who is left. -/
structure Stt (on : Int → Int → Bool) (zn : Nat) (u : List Int) (s0 : (Int → List Int) × List Int) (D : List Int) (R : List Int) (xs : List FV) : Prop where
  left : R = (fill on zn D s0).2
  tabl : abs xs = tbd u (fill on zn D s0).1 D
  unp : ∀ j, j < u.length → u.getD j 0 ∉ D → xs.getD j dFV = dFV

theorem Stt.add {on : Int → Int → Bool} {zn : Nat} {u : List Int} {s0 : (Int → List Int) × List Int} {D R : List Int} {xs : List FV} (p : Stt on zn u s0 D R xs) (hu : u.Nodup) {i : Nat} (hi : i < u.length) {b : Int} (hb : u.getD i 0 = b) (vi : Value) {T R' : List Int} (hp : (T, R') = pick (on b) zn R) :
    Stt on zn u s0 (D ++ [b]) R' (xs.set i ⟨b, vi, T⟩) := by
  have e : fill on zn (D ++ [b]) s0 = (fun c => if c = b then T else (fill on zn D s0).1 c, R') := by
    rw [fill_snoc]
    unfold Go.Proofs.Ytkaohjlnlgennaa.ev.step
    rw [← p.left, ← hp]
  refine ⟨by rw [e], ?_, fun j hj hn => ?_⟩
  · rw [e]
    have := p.tabl
    unfold abs at this ⊢
    rw [List.map_set, this]
    exact tbd_set hu _ _ i hi b hb T
  · have h1 : u.getD j 0 ∉ D := fun h => hn (List.mem_append.2 (.inl h))
    have h2 : i ≠ j := fun h => hn (by rw [← h, hb]; simp)
    have := p.unp j hj h1
    rw [List.getD_eq_getElem?_getD] at this ⊢
    rw [List.getElem?_set_ne h2]
    exact this

theorem lvlI_of {H : Nat} {ls : List Int} (hk : ∀ l ∈ ls, okL (H : Int) l = true) {b : Int} (hb : b ∈ uni (H : Int) ls) : lvlI b = (lvB b : Int) ∧ 0 ≤ b ∧ b ≤ 126 := by
  obtain ⟨H', B, e, rfl, h1, h2, _⟩ := uni_nat hk hb
  have := (pow_le6 H' h1).2
  refine ⟨?_, by omega, by omega⟩
  unfold lvlI
  rw [if_neg (by omega)]
  rfl

set_option maxRecDepth 100000 in
set_option maxHeartbeats 4000000 in
theorem rplan_some {J K : Nat → Prop} (w : World) (H : Nat) (z : Int) (v iv : Value) (ls : List Int) (its : List (Int × Int)) (hv : Lies J w v (ls.map (Value.int .i64))) (hi : Lie K w iv its.length (its.flatMap f2)) (hl : ls.length ≤ 100000) (hil : its.length ≤ 100000)
    (hm : mayB (H : Int) z ls its = true) :
    Calls Try.prog 11 #[.int .i64 (H : Int), .int .i64 z, v, iv] w fun e w' => ∃ fv lv xs, e = .returned (.tuple #[fv, lv]) ∧ Fls w' fv xs ∧ abs xs = (uni (H : Int) ls).map (fun b => (b, (planF (H : Int) z ls its).1 b)) ∧ Lies (Old w') w' lv ((planF (H : Int) z ls its).2.map (Value.int .i64)) ∧ Chg no w w' := by
  obtain ⟨i0, hi0, hz0, hz1, hz2⟩ := info_parts info3
  obtain ⟨j0, hj0, hy0, hy1, hy2⟩ := info_parts info62
  have HMP : Hid (mayP (H : Int) z ls its) := mayB_mayP hm
  have hH6 : H ≤ 6 := by have := (okH_iff (H : Int)).1 HMP.out.1; omega
  have HM : Hid (∀ W, Chg no w W → Calls Try.prog 18 #[.int .i64 (H : Int), .int .i64 z, v, iv] W fun e w' => e = .returned (.bool true) ∧ Chg no W w') := fun W k => by
    have := rmayPlan_any W H z v iv ls its (hv.chg k (fun _ _ h => h)) (hi.same k) hl hil
    rw [hm] at this
    exact this
  have HU : Hid (∀ W, Chg no w W → Calls Try.prog 32 #[.int .i64 (H : Int), v] W fun e w' => ∃ v', e = .returned v' ∧ New W (uni (H : Int) ls) v' w') := fun W k => runion_any W H v ls (hv.chg k (fun _ _ h => h)) hl
  obtain ⟨b0, d0, rfl⟩ := hi.slice
  have HIT : Hid (∀ W, Chg no w W → ∀ j, j < its.length → ∃ y, b0 = some y ∧ W.cell? (y.add (j * 2)) = some (.int .i64 (its.getD j (0, 0)).1) ∧ W.cell? ⟨(y.add (j * 2)).block, (y.add (j * 2)).off + 1, none⟩ = some (.int .i64 (its.getD j (0, 0)).2)) := fun W k j hj => by
    obtain ⟨y, e1, e2, e3, _⟩ := (hi.same k).at2 j hj
    exact ⟨y, e1, e2, e3⟩
  have HID : Hid (∀ k, k < its.length → (ids its).getD k 0 = (its.getD k (0, 0)).1) := fun k hk => getD_getD hk
  obtain ⟨zs, hzs⟩ : ∃ zs, ids its = zs := ⟨_, rfl⟩
  have HZS : Hid (ids its = zs) := hzs
  have HZL : Hid (zs.length = its.length) := by show _ = _; rw [← hzs, ids_len]
  rw [hzs] at HID
  obtain ⟨n, hn⟩ : ∃ n, its.length = n := ⟨_, rfl⟩
  have EN : Hid (its.length = n) := hn
  rw [hn] at HM HIT HID HZL hil ⊢
  have hni : (n : Int) ≤ 100000 := by omega
  clear hv hi hm hzs hn
  go_enter Try.func11, Try.ntmps11
  go_wp2_with fail
  refine (HM.out _ (Chg.refl no w)).mono ?_
  rintro e w1 ⟨rfl, c1⟩
  have K1 : Hid (Chg no w w1) := c1
  clear HM c1
  go_wp2_with fail
  -- the ids
  go_loopw [10, 11] (fun lv i wr => ∃ k : Nat, k ≤ n ∧ i = .int .i64 (k : Int) ∧ New w1 (zs.take k) lv wr) (fun _ i _ => n - (intOf i).toNat)
  case atStart => exact ⟨0, by omega, rfl, New.nil w1⟩
  case round =>
    obtain ⟨k, hk, rfl, hN⟩ := hrel
    obtain ⟨xa, xc, rfl⟩ := hN.shape
    by_cases hkn : k < n
    · have hki : (k : Int) < n := by omega
      obtain ⟨y, rfl, e0, _⟩ := HIT.out wr (K1.out.then hN.2) k hkn
      have hsn := take_next zs 0 k (by rw [HZL.out]; exact hkn)
      rw [HID.out k hkn] at hsn
      obtain ⟨B, hB⟩ : ∃ B, (its.getD k (0, 0)).1 = B := ⟨_, rfl⟩
      rw [hB] at e0 hsn
      obtain ⟨T, hT⟩ : ∃ T, zs.take k = T := ⟨_, rfl⟩
      have hTk : T.length ≤ k := by rw [← hT]; exact List.length_take_le _ _
      rw [hT] at hN hsn ⊢
      have HN : Hid (New w1 T (.slice xa T.length xc) wr) := hN
      have HE : Hid (zs.take (k + 1) = T ++ [B]) := hsn
      have HW : Hid (Lies (fun _ => True) (wr.alloc (.cells #[.int .i64 B] 3)) (.slice (some ⟨wr.heap.size, 0, none⟩) 1 1) ([B].map (Value.int .i64))) := .inr ⟨_, 1, rfl, fun _ => trivial, fun j u hu => news_at (xs := [.int .i64 B]) j u hu⟩
      clear hN hsn hB hT
      go_wp2_with (at_builtin; refine wpList_append_grew rfl _ _ 22 rfl 3 i0 (.int .i64 0) 8 Try.underlying22 hi0 hz0 hz1 hz2 rfl (.slice xa T.length xc) T.length (T.map (Value.int .i64)) rfl (owns_base (HN.out.chg ((Chg.refl no wr).alloc _)).1 (Nat.zero_le _)) (fun _ => True) (.slice (some ⟨wr.heap.size, 0, none⟩) 1 1) ([B].map (Value.int .i64)) rfl HW.out (ints_one _) (by simp; unfold maxLen; omega) (by simp; omega) ?_; intro v5 w5 G5)
      have HN5 : Hid (New w1 (T ++ [B]) v5 w5) := (HN.out.chg ((Chg.refl no wr).alloc _)).grew G5 rfl
      obtain ⟨a5, c5, rfl⟩ := HN5.out.shape
      clear G5 HN HW
      go_wp2
      go_roundw
      case rel => exact ⟨k + 1, by omega, by go_num, by rw [HE.out]; exact HN5.out⟩
      case measure => simp [intOf]; omega
    · obtain rfl : n = k := by omega
      have hki : ¬ ((n : Int) < n) := by omega
      have e : zs.take n = zs := by rw [← HZL.out, List.take_length]
      rw [e] at hN ⊢
      obtain ⟨w2, hw2⟩ : ∃ W, W = wr := ⟨_, rfl⟩
      subst hw2
      have K2 : Hid (Chg no w w2) := K1.out.then hN.2
      have hso := sorted_any w2 xa zs.length xc zs hN.lies rfl (by rw [HZL.out]; exact hil)
      have HZL2 := HZL.out
      rw [HZL2] at hso ⊢
      clear hN K1 HID
      go_wp2_with fail
      refine hso.mono ?_
      rintro e w3 ⟨lv0, rfl, NS⟩
      have K3 : Hid (Chg no w w3) := K2.out.then NS.2
      have HNS : Hid (New w2 (sortI zs) lv0 w3) := NS
      obtain ⟨la, lc, rfl⟩ := NS.shape
      clear hso
      go_wp2_with fail
      refine (HU.out _ K3.out).mono ?_
      rintro e w4 ⟨uv, rfl, NU⟩
      obtain ⟨au, cu, rfl⟩ := NU.shape
      obtain ⟨u, hu⟩ : ∃ u, uni (H : Int) ls = u := ⟨_, rfl⟩
      have HUU : Hid (uni (H : Int) ls = u) := hu
      rw [hu] at NU ⊢
      obtain ⟨m, hm'⟩ : ∃ m, u.length = m := ⟨_, rfl⟩
      have HML : Hid (u.length = m) := hm'
      have hml : m ≤ 127 := by
        rw [← hm', ← hu]
        exact uni_len H ls
      have HNU : Hid (New w3 u (.slice au u.length cu) w4) := NU
      rw [hm'] at HNU ⊢
      have hmi : (m : Int) ≤ 127 := by omega
      clear HU NU hu hm' NS
      go_wp2_with (at_make; refine wpList_make_full _ rfl _ _ 29 rfl w4.heap.size 62 j0 fz 2 Try.underlying29 hj0 hy0 hy1 .i64 .i64 m m m rfl rfl rfl rfl ?c1 ?c2 ?c3 ?_)
      case c1 => rw [hy2]; omega
      case c2 => unfold maxLen; omega
      case c3 => omega
      intro w5 hown hg
      have b5 : w5.heap[w4.heap.size]? = some (.cells ((List.replicate m dFV).flatMap ff).toArray 62 (0, 0)) := by
        obtain ⟨_, _, cur, q1, q2, q3, q4, q5⟩ := owns_open (owns_base hown (Nat.zero_le _))
        rw [q1]
        congr 2
        rw [List.take_of_length_le (by omega)] at q5
        rw [q5.trans (made_fills m)]
      have K5 : Chg no w4 w5 := (Chg.refl no w4).grown hg (by simp)
      obtain ⟨g, hgg⟩ : ∃ g, w4.heap.size = g := ⟨_, rfl⟩
      have s3 := K3.out.size
      have s4 := HNU.out.2.size
      have s5 : g < w5.heap.size := by rw [← hgg]; exact lt_of_block b5
      have HWG : Hid (∀ W, Chg (fun k => k = g) w5 W → Chg no w W) := fun W k => ((K3.out.then HNU.out.2).then K5).trans k fun x hx => .inr (by omega)
      have HUC : Hid (∀ W, Chg (fun k => k = g) w5 W → ∀ j, j < m → ∃ y, au = some y ∧ W.cell? (y.add j) = some (.int .i64 (u.getD j 0))) := fun W k j hj => by
        obtain ⟨gu, e, _, hc, _⟩ := owns_at (k := j) (u := .int .i64 (u.getD j 0)) (by have := HNU.out.1; rw [HML.out] at this; exact this) (by rw [List.getElem?_map, List.getD_eq_getElem?_getD, List.getElem?_eq_getElem (by rw [HML.out]; exact hj)]; rfl)
        have hlt : gu < g := by
          rw [← hgg]
          exact World.block_lt_of_cell? w4 _ hc
        refine ⟨_, e, ?_⟩
        rw [Addr.add_lit, Nat.zero_add]
        exact k.cell (K5.cell hc (fun h => h)) (fun e => by simp only at e; omega)
      have HR0 : Hid (Rst w g (.slice la (sortI zs).length lc) (sortI zs) (List.replicate m dFV) w5) := by
        have q : Chg no w3 w5 := HNU.out.2.then K5
        refine ⟨by rw [← hgg]; exact b5, owns_base (q.owns HNS.out.1 (fun _ _ h => h)) K2.out.size, fun e => ?_, fun x hx => ?_, by omega, (K3.out.then q)⟩
        · have := (HNS.out.1.lt g e).2
          omega
        · rw [List.eq_of_mem_replicate hx]
          exact ⟨World.ownsRow_nil _ _ _ _, by simp [dFV, Value.ownBlock]⟩
      rw [hgg]
      have HUN : Hid (u.Nodup) := by
        show u.Nodup
        rw [← HUU.out]
        exact rising_nodup (uni_rising _ _)
      have HUB : Hid (∀ j, j < m → lvlI (u.getD j 0) = (lvB (u.getD j 0) : Int) ∧ 0 ≤ u.getD j 0 ∧ u.getD j 0 ≤ 126) := fun j hj => by
        refine lvlI_of HMP.out.2.2.1 ?_
        rw [HUU.out, List.getD_eq_getElem?_getD, List.getElem?_eq_getElem (by rw [HML.out]; exact hj)]
        exact List.getElem_mem _
      obtain ⟨s0, hs0⟩ : ∃ s0 : (Int → List Int) × List Int, s0 = (fun _ => [], sortI zs) := ⟨_, rfl⟩
      obtain ⟨on, hon⟩ : ∃ on, onP (H : Int) its = on := ⟨_, rfl⟩
      have HON : Hid (onP (H : Int) its = on) := hon
      have HST0 : Hid (Stt on z.toNat u s0 (thru lvB u H 0 0) (sortI zs) (List.replicate m dFV)) := by
        refine ⟨?_, ?_, fun j hj _ => ?_⟩
        · rw [thru_zero, hs0]
          rfl
        · rw [thru_zero]
          show _ = tbd u _ []
          rw [tbd_nil, HML.out]
          simp [abs, FV.fl, dFV]
        · rw [List.getD_eq_getElem?_getD, List.getElem?_replicate, if_pos (by rw [← HML.out]; exact hj)]
          rfl
      have HS0 : Hid (s0 = (fun _ => [], sortI zs)) := hs0
      have HSL : Hid ((sortI zs).length ≤ n) := by
        show _ ≤ _
        rw [sortI_len, HZL.out]
        exact Nat.le_refl _
      clear hown hg b5 hgg hs0 hon K5 HNS HNU K2 HZL2 e s3 s4
      go_wp2_with fail
      -- the levels
      go_loopw [10, 14] (fun lv lev wr => ∃ (kk : Nat) (R : List Int) (xs : List FV), kk ≤ H + 1 ∧ lev = .int .i64 ((H : Int) - (kk : Int)) ∧ Rst w g lv R xs wr ∧ Chg (fun k => k = g) w5 wr ∧ Stt on z.toNat u s0 (thru lvB u H kk 0) R xs) (fun _ lev _ => (intOf lev + 1).toNat)
      case atStart => exact ⟨0, _, _, by omega, by simp, HR0.out, Chg.refl _ _, HST0.out⟩
      case round =>
        clear HR0 HST0
        obtain ⟨kk, R, xs, hkk, rfl, hRs, hC5, hSt⟩ := hrel
        by_cases hkH : kk ≤ H
        · obtain ⟨L, hL⟩ : ∃ L : Int, (H : Int) - (kk : Int) = L := ⟨_, rfl⟩
          have HLL : Hid ((H : Int) - (kk : Int) = L) := hL
          have hL0 : (0 : Int) ≤ L := by omega
          have hL6 : L ≤ 6 := by omega
          rw [hL]
          have HRs : Hid (∃ lv R xs, lv = _ ∧ Rst w g lv R xs wr ∧ Stt on z.toNat u s0 (thru lvB u H kk 0) R xs) := ⟨_, R, xs, rfl, hRs, hSt⟩
          have HC5 : Hid (Chg (fun k => k = g) w5 wr) := hC5
          clear hL hRs hC5 hSt
          obtain ⟨wA, hwA⟩ : ∃ W, W = wr := ⟨_, rfl⟩
          subst hwA
          go_wp2_with fail
          go_loopw [10, 15] (fun lv i wr => ∃ (ii : Nat) (R : List Int) (xs : List FV), ii ≤ m ∧ i = .int .i64 (ii : Int) ∧ Rst w g lv R xs wr ∧ Chg (fun k => k = g) w5 wr ∧ Stt on z.toNat u s0 (thru lvB u H kk ii) R xs) (fun _ i _ => m - (intOf i).toNat)
          case atStart =>
            obtain ⟨lv, R, xs, rfl, q1, q2⟩ := HRs.out
            exact ⟨0, R, xs, by omega, rfl, q1, HC5.out, q2⟩
          case round =>
            clear HRs HC5
            obtain ⟨ii, R, xs, hii, rfl, hRs, hC5, hSt⟩ := hrel
            obtain ⟨al, cl, rfl⟩ := owns_shape hRs.lef
            have hxl : xs.length = m := by rw [← abs_len, hSt.tabl, tbd_len, HML.out]
            obtain ⟨nR, hnR⟩ : ∃ nR, R.length = nR := ⟨_, rfl⟩
            have HNR : Hid (R.length = nR) := hnR
            have hRn : nR ≤ n := by
              have e9 : (fill on z.toNat (thru lvB u H kk ii) s0).2.Sublist s0.2 := fill_sub _ _
              have := e9.length_le
              rw [← hSt.left, hnR, HS0.out] at this
              exact Nat.le_trans this HSL.out
            have hRi : (nR : Int) ≤ 100000 := by omega
            have HRs : Hid (Rst w g (.slice al nR cl) R xs wr) := by rw [← hnR]; exact hRs
            have HC5 : Hid (Chg (fun k => k = g) w5 wr) := hC5
            have HSt : Hid (Stt on z.toNat u s0 (thru lvB u H kk ii) R xs) := hSt
            rw [hnR]
            by_cases him : ii < m
            · have hmii : (ii : Int) < m := by omega
              obtain ⟨yu, rfl, cu0⟩ := HUC.out wr hC5 ii him
              obtain ⟨lb1, lb2, lb3⟩ := HUB.out ii him
              obtain ⟨b, hb⟩ : ∃ b, u.getD ii 0 = b := ⟨_, rfl⟩
              have HB : Hid (u.getD ii 0 = b) := hb
              rw [hb] at cu0 lb1 lb2 lb3
              have HLV := rlevel_any wr b (by omega)
              rw [lb1] at HLV
              obtain ⟨q, hq⟩ : ∃ q : Nat, lvB b = q := ⟨_, rfl⟩
              have HQ : Hid (lvB b = q) := hq
              rw [hq] at HLV
              clear hRs hSt lb1 hb hq hnR hC5
              by_cases hqL : (q : Int) = L
              · subst hqL
                have hql : Hid (lvB b + kk = H) := by show _ = _; have := HLL.out; have := HQ.out; omega
                have hxi : xs[ii]? = some (xs.getD ii dFV) := by rw [List.getD_eq_getElem?_getD, List.getElem?_eq_getElem (by rw [hxl]; exact him)]; rfl
                obtain ⟨e2, e3⟩ := row_cell HRs.out.row (ii * 2) _ (flat_get lenf xs ii 0 (by omega) _ hxi)
                have hIt := HRs.out.enter (i := ii) (by rw [HSt.out.unp ii (by rw [HML.out]; exact him) (by rw [HB.out]; exact thru_new HUN.out (by rw [HML.out]; exact him) HB.out hql.out)]; rfl) b
                have HIT0 : Hid (Itr wr g ii b xs (.slice none 0 0) [] (.slice none 0 0) [] (wr.setCell ⟨g, ii * 2, none⟩ (.int .i64 b))) := hIt
                have HLF : Hid (∀ W, Chg (fun k => k = g) wr W → ∀ k, k < nR → ∃ y, al = some y ∧ W.cell? (y.add k) = some (.int .i64 (R.getD k 0))) := fun W kW k hk => by
                  obtain ⟨y, e, hc⟩ := lies_at (Lies.of_owns (J := fun _ => True) (by have := HRs.out.lef; rw [HNR.out] at this; exact this) (fun _ _ => trivial)) k (by rw [HNR.out]; exact hk)
                  refine ⟨y, e, kW.cell hc fun eg => ?_⟩
                  refine HRs.out.lg ?_
                  rw [e]
                  rw [add_block] at eg
                  simp [Value.ownBlock, eg]
                have HCU : Hid (∀ W, Chg (fun k => k = g) wr W → W.cell? (yu.add ii) = some (.int .i64 b)) := fun W kW => by
                  obtain ⟨y', e', h'⟩ := HUC.out W (HC5.out.then kW) ii him
                  cases e'
                  rw [HB.out] at h'
                  exact h'
                have HTI : Hid (∀ W, Chg (fun k => k = g) wr W → ∀ j, j < n → ∃ y, b0 = some y ∧ W.cell? (y.add (j * 2)) = some (.int .i64 (its.getD j (0, 0)).1) ∧ W.cell? ⟨(y.add (j * 2)).block, (y.add (j * 2)).off + 1, none⟩ = some (.int .i64 (its.getD j (0, 0)).2)) := fun W kW => HIT.out W (HWG.out W (HC5.out.then kW))
                obtain ⟨wB, hwB⟩ : ∃ W, W = wr := ⟨_, rfl⟩
                subst hwB
                clear hxi hIt
                go_wp2_with fail
                refine HLV.mono ?_
                rintro e w6 ⟨rfl, rfl⟩
                clear HLV
                go_wp2_with fail
                obtain ⟨wI, hwI⟩ : ∃ W, w6.setCell ⟨g, ii * 2, none⟩ (.int .i64 b) = W := ⟨_, rfl⟩
                rw [hwI] at HIT0 ⊢
                clear hwI
                go_loopw [16, 17] (fun rv kv wq => ∃ (k : Nat) (T Rr : List Int) (vi : Value), k ≤ nR ∧ kv = .int .i64 (k : Int) ∧ Itr w6 g ii b xs vi T rv Rr wq ∧ (T, Rr) = pick (on b) z.toNat (R.take k)) (fun _ kv _ => nR - (intOf kv).toNat)
                case atStart => exact ⟨0, [], [], _, by omega, rfl, HIT0.out, by rw [List.take_zero]; cases z.toNat <;> rfl⟩
                case round =>
                  clear HIT0
                  obtain ⟨k, T, Rr, vi, hk, rfl, hI, hp⟩ := hrel
                  obtain ⟨va, vc, rfl⟩ := owns_shape hI.idr
                  obtain ⟨ra, rc, rfl⟩ := owns_shape hI.rst
                  have HI : Hid (Itr w6 g ii b xs (.slice va T.length vc) T (.slice ra Rr.length rc) Rr wr) := hI
                  have HP : Hid ((T, Rr) = pick (on b) z.toNat (R.take k)) := hp
                  clear hI hp
                  by_cases hkR : k < nR
                  · have hkRi : (k : Int) < nR := by omega
                    obtain ⟨x, hx⟩ : ∃ x, R.getD k 0 = x := ⟨_, rfl⟩
                    have HX : Hid (R.getD k 0 = x) := hx
                    have HLX : Hid (∀ W, Chg no wr W → ∃ y, al = some y ∧ W.cell? (y.add k) = some (.int .i64 x)) := fun W kW => by
                      have := HLF.out W (HI.out.chg.then (kW.of_no _)) k hkR
                      rw [hx] at this
                      exact this
                    obtain ⟨yl, rfl, _⟩ := HLX.out wr (Chg.refl no _)
                    have HLY : Hid (∀ W, Chg no wr W → W.cell? (yl.add k) = some (.int .i64 x)) := fun W kW => by
                      obtain ⟨y', e', h'⟩ := HLX.out W kW
                      cases e'
                      exact h'
                    have HTJ : Hid (∀ W, Chg no wr W → ∀ j, j < n → ∃ y, b0 = some y ∧ W.cell? (y.add (j * 2)) = some (.int .i64 (its.getD j (0, 0)).1) ∧ W.cell? ⟨(y.add (j * 2)).block, (y.add (j * 2)).off + 1, none⟩ = some (.int .i64 (its.getD j (0, 0)).2)) := fun W kW => HTI.out W (HI.out.chg.then (kW.of_no _))
                    obtain ⟨wJ, hwJ⟩ : ∃ W, W = wr := ⟨_, rfl⟩
                    subst hwJ
                    clear hx HLX
                    go_wp2_with fail
                    go_loopw [18, 19] (fun lf jv wq => ∃ j : Nat, j ≤ n ∧ jv = .int .i64 (j : Int) ∧ lf = .int .i64 (leafOf (its.take j) x) ∧ Chg no wJ wq) (fun _ jv _ => n - (intOf jv).toNat)
                    case atStart => exact ⟨0, by omega, rfl, rfl, Chg.refl no _⟩
                    case round =>
                      obtain ⟨j, hj, rfl, rfl, hCJ⟩ := hrel
                      have HCJ : Hid (Chg no wJ wr) := hCJ
                      by_cases hjn : j < n
                      · have hji : (j : Int) < n := by omega
                        obtain ⟨yi, rfl, i0', i1'⟩ := HTJ.out wr hCJ j hjn
                        have hly := HLY.out wr hCJ
                        have hsn : leafOf (its.take (j + 1)) x = if (its.getD j (0, 0)).1 = x then (its.getD j (0, 0)).2 else leafOf (its.take j) x := by
                          rw [take_next its (0, 0) j (by rw [EN.out]; exact hjn), leafOf_snoc]
                        obtain ⟨⟨p', l'⟩, hpl⟩ : ∃ x, its.getD j (0, 0) = x := ⟨_, rfl⟩
                        rw [hpl] at i0' i1' hsn
                        simp only at i0' i1' hsn
                        have HSN : Hid (leafOf (its.take (j + 1)) x = if p' = x then l' else leafOf (its.take j) x) := hsn
                        obtain ⟨lfo, hlfo⟩ : ∃ lfo, leafOf (its.take j) x = lfo := ⟨_, rfl⟩
                        rw [hlfo] at HSN ⊢
                        clear hsn hpl hlfo hCJ
                        by_cases hpx : p' = x
                        · subst hpx
                          have HE : Hid (leafOf (its.take (j + 1)) p' = l') := by show _ = _; rw [HSN.out, if_pos rfl]
                          have HJ1 : Hid (∀ q, (wr.drewN q).cell? ⟨(yi.add (j * 2)).block, (yi.add (j * 2)).off + 1, none⟩ = some (.int .i64 l')) := fun q => i1'
                          clear HSN
                          go_wp2_with fail
                          go_quiet (fail)
                          go_wp2
                          go_roundw
                          case rel => exact ⟨j + 1, by omega, by go_num, by rw [HE.out], HCJ.out.drewN _⟩
                          case measure => simp [intOf]; omega
                        · have hd : (p' == x) = false := by simpa using hpx
                          have HE : Hid (leafOf (its.take (j + 1)) x = lfo) := by show _ = _; rw [HSN.out, if_neg hpx]
                          clear HSN hpx
                          go_wp2_with fail
                          go_quiet (fail)
                          go_wp2
                          go_roundw
                          case rel => exact ⟨j + 1, by omega, by go_num, by rw [HE.out], HCJ.out.drewN _⟩
                          case measure => simp [intOf]; omega
                      · obtain rfl : n = j := by omega
                        have hji : ¬ ((n : Int) < n) := by omega
                        have e : its.take n = its := by rw [← EN.out, List.take_length]
                        rw [e]
                        obtain ⟨lf, hlf⟩ : ∃ lf, leafOf its x = lf := ⟨_, rfl⟩
                        have HON2 : Hid (onI (H : Int) b lf = on b x) := by
                          show _ = _
                          rw [← HON.out, ← hlf]
                          rfl
                        rw [hlf]
                        obtain ⟨nT, hnT⟩ : ∃ nT, T.length = nT := ⟨_, rfl⟩
                        obtain ⟨nr, hnr⟩ : ∃ nr, Rr.length = nr := ⟨_, rfl⟩
                        have HNT : Hid (T.length = nT) := hnT
                        have HNr : Hid (Rr.length = nr) := hnr
                        have hsum : nT ≤ nR ∧ nr ≤ nR := by
                          have h1 := pick_sum (p := on b) (R.take k) z.toNat
                          rw [← HP.out] at h1
                          simp only [List.length_take, HNR.out, hnT, hnr] at h1
                          omega
                        have hTi : (nT : Int) ≤ 100000 := by omega
                        have HII : Hid (Itr w6 g ii b xs (.slice va nT vc) T (.slice ra nr rc) Rr wr) := by
                          have := HI.out.own hCJ
                          rw [hnT, hnr] at this
                          exact this
                        have hsn : pick (on b) z.toNat (R.take (k + 1)) = if T.length < z.toNat ∧ on b x = true then (T ++ [x], Rr) else (T, Rr ++ [x]) := by
                          rw [take_next R 0 k (by rw [HNR.out]; exact hkR), HX.out, pick_snoc, ← HP.out]
                        have HSN : Hid (pick (on b) z.toNat (R.take (k + 1)) = if T.length < z.toNat ∧ on b x = true then (T ++ [x], Rr) else (T, Rr ++ [x])) := hsn
                        have hxi2 : (xs.set ii ⟨b, .slice va nT vc, T⟩)[ii]? = some ⟨b, .slice va nT vc, T⟩ := by
                          rw [List.getElem?_set]
                          simp [hxl, him]
                        have HCE : Hid (∀ W, Chg no wr W → W.cell? ⟨g, ii * 2 + 1, none⟩ = some (.slice va nT vc) ∧ W.frozen? ⟨g, ii * 2 + 1, none⟩ = false) := fun W kW => row_cell (HII.out.own kW).row (ii * 2 + 1) _ (flat_get lenf _ ii 1 (by omega) _ hxi2)
                        obtain ⟨x1, x2⟩ := HCE.out wr (Chg.refl no _)
                        have hcu := HCU.out wr HII.out.chg
                        have HZ : Hid ((nT : Int) < z ↔ T.length < z.toNat) := by
                          show _ ↔ _
                          rw [HNT.out]
                          omega
                        rw [hnr]
                        clear hlf hnT hnr hsn e hCJ HI
                        by_cases hz : (nT : Int) < z
                        · have HRO := ron_any wr H b lf
                          rw [HON2.out] at HRO
                          cases hob : on b x
                          · rw [hob] at HRO
                            have HPS : Hid (pick (on b) z.toNat (R.take (k + 1)) = (T, Rr ++ [x])) := by
                              show _ = _
                              rw [HSN.out, hob, if_neg (by simp)]
                            clear HSN hob
                            go_wp2_with fail
                            refine HRO.mono ?_
                            rintro e w7 ⟨rfl, c7⟩
                            have KW : Hid (Chg no wJ w7) := HCJ.out.then c7
                            have HIW := HII.out.own c7
                            clear HRO c7 HII HCE x1 x2
                            have HWL : Hid (Itr w6 g ii b xs (.slice va nT vc) T (.slice ra nr rc) Rr w7) := HIW
                            have hly := HLY.out w7 KW.out
                            have HO : Hid ((w7.alloc (.cells #[.int .i64 x] 3)).ownsRow 0 3 1 (.slice ra nr rc) nr (Rr.map (Value.int .i64))) := by
                              have := ((HWL.out.own ((Chg.refl no w7).alloc (.cells #[.int .i64 x] 3))).rst)
                              rw [HNr.out] at this
                              exact owns_base this (Nat.zero_le _)
                            go_wp2_with (at_builtin; refine wpList_append_at rfl _ _ 22 rfl 3 i0 (.int .i64 0) 1 8 Try.underlying22 hi0 hz0 hz1 hz2 rfl (by decide) (.slice ra nr rc) nr (Rr.map (Value.int .i64)) rfl HO.out ⟨w7.heap.size, 0, none⟩ 1 1 [.int .i64 x] rfl rfl news_at (one_i1 _) (by unfold maxLen; omega) (by omega) ?_; intro v5 w5 o5 g5 p5)
                            have HI5 : Hid (Itr w6 g ii b xs (.slice va nT vc) T v5 (Rr ++ [x]) w5) := HWL.out.leave ((Chg.refl no w7).alloc _) HNr.out x o5 g5 p5
                            obtain ⟨a5, c5, rfl⟩ := owns_shape o5
                            clear o5 g5 p5 HO HWL
                            go_wp2
                            go_roundw
                            case rel => exact ⟨k + 1, T, Rr ++ [x], _, by omega, by go_num, HI5.out, HPS.out.symm⟩
                            case measure => simp [intOf]; omega
                          · rw [hob] at HRO
                            have HPS : Hid (pick (on b) z.toNat (R.take (k + 1)) = (T ++ [x], Rr)) := by
                              show _ = _
                              rw [HSN.out, if_pos ⟨HZ.out.1 hz, hob⟩]
                            clear HSN hob
                            go_wp2_with fail
                            refine HRO.mono ?_
                            rintro e w7 ⟨rfl, c7⟩
                            have KW : Hid (Chg no wJ w7) := HCJ.out.then c7
                            have HIW : Hid (Itr w6 g ii b xs (.slice va nT vc) T (.slice ra nr rc) Rr w7) := HII.out.own c7
                            have HC7 : Hid (∀ W, Chg no w7 W → W.cell? ⟨g, ii * 2 + 1, none⟩ = some (.slice va nT vc) ∧ W.frozen? ⟨g, ii * 2 + 1, none⟩ = false) := fun W kW => HCE.out W (c7.then kW)
                            have HS7 : Hid (∀ W, Chg no w7 W → W.cell? ⟨g, ii * 2 + 1, none⟩ = some (.slice va nT vc) ∧ W.cell? (yl.add k) = some (.int .i64 x)) := fun W kW => ⟨(HC7.out W kW).1, HLY.out W (KW.out.then kW)⟩
                            clear HRO c7 HII HCE x1 x2
                            go_wp2_with fail
                            have kD : Chg no w7 w7.drew := (Chg.refl no w7).drew
                            refine las.start (fun W => W.cell? ⟨g, ii * 2 + 1, none⟩ = some (.slice va nT vc) ∧ W.cell? (yl.add k) = some (.int .i64 x)) 15 (by kernel_rfl) ?_
                            have hS0 := HS7.out _ kD
                            refine las.take (i := 0) 16 ?_ rfl (by kernel_rfl) (by kernel_rfl) (by kernel_rfl) (by kernel_rfl) (by kernel_rfl) (fun _ _ _ h => h) (by rfl) ?_ hS0 ?_
                            rotate_left
                            · intro wS hSw
                              try dsimp only at hSw
                              first | (go_simp; done) | (go_simp; rfl)
                            simp only [Act.put, List.setIfInBounds_toArray, List.set_cons_zero, List.set_cons_succ]
                            refine las.take (i := 1) 16 ?_ rfl (by kernel_rfl) (by kernel_rfl) (by kernel_rfl) (by kernel_rfl) (by kernel_rfl) (fun _ _ _ h => h) (by rfl) ?_ hS0 ?_
                            rotate_left
                            · intro wS hSw
                              try dsimp only at hSw
                              first | (go_simp; done) | (go_simp; rfl)
                            simp only [Act.put, List.setIfInBounds_toArray, List.set_cons_zero, List.set_cons_succ]
                            refine las.take (i := 2) 16 ?_ rfl (by kernel_rfl) (by kernel_rfl) (by kernel_rfl) (by kernel_rfl) (by kernel_rfl) (fun _ _ _ h => h) (by rfl) ?_ hS0 ?_
                            rotate_left
                            · intro wS hSw
                              try dsimp only at hSw
                              first | (go_simp; done) | (go_simp; rfl)
                            simp only [Act.put, List.setIfInBounds_toArray, List.set_cons_zero, List.set_cons_succ]
                            refine las.take (i := 3) 16 ?_ rfl (by kernel_rfl) (by kernel_rfl) (by kernel_rfl) (by kernel_rfl) (by kernel_rfl) (fun _ _ _ h => h) (by rfl) ?_ hS0 ?_
                            rotate_left
                            · intro wS hSw
                              try dsimp only at hSw
                              first | (go_simp; done) | (go_simp; rfl)
                            simp only [Act.put, List.setIfInBounds_toArray, List.set_cons_zero, List.set_cons_succ]
                            refine las.take (i := 4) 16 ?_ rfl (by kernel_rfl) (by kernel_rfl) (by kernel_rfl) (by kernel_rfl) (by kernel_rfl) (fun _ _ _ h => h) (by rfl) ?_ hS0 ?_
                            rotate_left
                            · intro wS hSw
                              try dsimp only at hSw
                              first | (go_simp; done) | (go_simp; rfl)
                            simp only [Act.put, List.setIfInBounds_toArray, List.set_cons_zero, List.set_cons_succ]
                            refine las.take (i := 5) 16 ?_ rfl (by kernel_rfl) (by kernel_rfl) (by kernel_rfl) (by kernel_rfl) (by kernel_rfl) (fun _ _ _ h => h) (by rfl) ?_ hS0 ?_
                            rotate_left
                            · intro wS hSw
                              try dsimp only at hSw
                              first | (go_simp; done) | (go_simp; rfl)
                            simp only [Act.put, List.setIfInBounds_toArray, List.set_cons_zero, List.set_cons_succ]
                            refine las.take (i := 6) 16 ?_ rfl (by kernel_rfl) (by kernel_rfl) (by kernel_rfl) (by kernel_rfl) (by kernel_rfl) (fun _ _ _ h => h) (by rfl) ?_ hS0 ?_
                            rotate_left
                            · intro wS hSw
                              try dsimp only at hSw
                              first | (go_simp; done) | (go_simp; rfl)
                            simp only [Act.put, List.setIfInBounds_toArray, List.set_cons_zero, List.set_cons_succ]
                            refine las.take (i := 7) 16 ?_ rfl (by kernel_rfl) (by kernel_rfl) (by kernel_rfl) (by kernel_rfl) (by kernel_rfl) (fun _ _ _ h => h) (by rfl) ?_ hS0 ?_
                            rotate_left
                            · intro wS hSw
                              try dsimp only at hSw
                              first | (go_simp; done) | (go_simp; rfl)
                            simp only [Act.put, List.setIfInBounds_toArray, List.set_cons_zero, List.set_cons_succ]
                            refine las.take (i := 8) 16 ?_ rfl (by kernel_rfl) (by kernel_rfl) (by kernel_rfl) (by kernel_rfl) (by kernel_rfl) (fun _ _ _ h => h) (by rfl) ?_ hS0 ?_
                            rotate_left
                            · intro wS hSw
                              try dsimp only at hSw
                              first | (go_simp; done) | (go_simp; rfl)
                            simp only [Act.put, List.setIfInBounds_toArray, List.set_cons_zero, List.set_cons_succ]
                            refine las.take (i := 9) 16 ?_ rfl (by kernel_rfl) (by kernel_rfl) (by kernel_rfl) (by kernel_rfl) (by kernel_rfl) (fun _ _ _ h => h) (by rfl) ?_ hS0 ?_
                            rotate_left
                            · intro wS hSw
                              try dsimp only at hSw
                              first | (go_simp; done) | (go_simp; rfl)
                            simp only [Act.put, List.setIfInBounds_toArray, List.set_cons_zero, List.set_cons_succ]
                            refine las.take (i := 10) 16 ?_ rfl (by kernel_rfl) (by kernel_rfl) (by kernel_rfl) (by kernel_rfl) (by kernel_rfl) (fun _ _ _ h => h) (by rfl) ?_ hS0 ?_
                            rotate_left
                            · intro wS hSw
                              try dsimp only at hSw
                              first | (go_simp; done) | (go_simp; rfl)
                            simp only [Act.put, List.setIfInBounds_toArray, List.set_cons_zero, List.set_cons_succ]
                            refine las.each (rs := [11]) (by kernel_rfl) rfl ?_
                            refine las.Each.cons rfl (fun K hK => ?_) las.Each.nil
                            go_simp
                            have kA : Chg no w7 ((w7.alloc (.cells #[.int .i64 x] 3)).drew) := ((Chg.refl no w7).alloc _).drew
                            have hSA := HS7.out _ kA
                            refine hK.out _ _ hSA ?_
                            try simp only [Act.put, List.setIfInBounds_toArray, List.set_cons_zero, List.set_cons_succ]
                            clear hK K
                            have HIA := HIW.out.own kA
                            have HOA : Hid (((w7.alloc (.cells #[.int .i64 x] 3)).drew).ownsRow 0 3 1 (.slice va nT vc) nT (T.map (Value.int .i64))) := by
                              have := HIA.idr
                              rw [HNT.out] at this
                              exact owns_base this (Nat.zero_le _)
                            refine las.each (rs := [12]) (by kernel_rfl) rfl ?_
                            refine las.Each.cons rfl (fun K hK => ?_) las.Each.nil
                            refine step_append_at rfl (.tmp 124) (.tmp 129) 22 rfl 3 i0 (.int .i64 0) 1 8 Try.underlying22 hi0 hz0 hz1 hz2 rfl (by decide) (.slice va nT vc) nT (T.map (Value.int .i64)) (by simp [Act.eval, Act.put]) HOA.out ⟨w7.heap.size, 0, none⟩ 1 1 [.int .i64 x] (by simp [Act.eval, Act.put]) rfl (news_at (w := w7) (xs := [.int .i64 x]) (t := 3)) (one_i1 _) (by unfold maxLen; omega) (by omega) ?_
                            intro v9 w9 o9 g9 p9
                            have HI9 : Hid (Itr w6 g ii b xs v9 (T ++ [x]) (.slice ra nr rc) Rr (w9.setCell ⟨g, ii * 2 + 1, none⟩ v9)) := HIW.out.take kA HNT.out x o9 g9 p9
                            have C9 : Chg (fun k => (Value.slice va nT vc).ownBlock = some k) (w7.alloc (.cells #[.int .i64 x] 3)).drew w9 := (Chg.refl _ _).grown g9 fun k hk => .inl hk
                            have hgn : ¬ (Value.slice va nT vc).ownBlock = some g := fun e => by
                              have := (HIA.idr.lt g (by rw [HNT.out] at *; exact e)).1
                              have := HIA.gl
                              omega
                            have hyn : ¬ (Value.slice va nT vc).ownBlock = some (yl.add k).block := fun e => by
                              obtain ⟨y', e', h'⟩ := HLF.out w6 (Chg.refl _ _) k hkR
                              cases e'
                              have h1 := World.block_lt_of_cell? w6 _ h'
                              have := (HIA.idr.lt _ (by rw [HNT.out] at *; exact e)).1
                              omega
                            obtain ⟨x91, x92⟩ := row_cell (C9.heap HIA.row hgn) (ii * 2 + 1) _ (flat_get lenf _ ii 1 (by omega) _ hxi2)
                            have hS9 : (fun W => W.cell? ⟨g, ii * 2 + 1, none⟩ = some (.slice va nT vc) ∧ W.cell? (yl.add k) = some (.int .i64 x)) w9 := ⟨x91, C9.cell (hSA.2) hyn⟩
                            obtain ⟨a9, c9, rfl⟩ := owns_shape o9
                            refine hK.out _ _ hS9 ?_
                            simp only [Act.put, List.setIfInBounds_toArray, List.set_cons_zero, List.set_cons_succ]
                            clear hK K
                            refine las.take (i := 13) 16 ?_ rfl (by kernel_rfl) (by kernel_rfl) (by kernel_rfl) (by kernel_rfl) (by kernel_rfl) (fun _ _ _ h => h) (by rfl) ?_ hS9 ?_
                            rotate_left
                            · intro wS hSw
                              try dsimp only at hSw
                              first | (go_simp; done) | (go_simp; rfl)
                            simp only [Act.put, List.setIfInBounds_toArray, List.set_cons_zero, List.set_cons_succ]
                            refine las.take (i := 14) 16 ?_ rfl (by kernel_rfl) (by kernel_rfl) (by kernel_rfl) (by kernel_rfl) (by kernel_rfl) (fun _ _ _ h => h) (by rfl) ?_ hS9 ?_
                            rotate_left
                            · intro wS hSw
                              try dsimp only at hSw
                              first | (go_simp; done) | (go_simp; rfl)
                            simp only [Act.put, List.setIfInBounds_toArray, List.set_cons_zero, List.set_cons_succ]
                            refine las.each (rs := [15]) (by kernel_rfl) rfl ?_
                            refine las.Each.last rfl (by kernel_rfl) (fun K hK => ?_)
                            go_simp
                            refine hK.out _ _ ?_
                            try simp only [Act.put, List.setIfInBounds_toArray, List.set_cons_zero, List.set_cons_succ]
                            clear hK K
                            refine las.done (by kernel_rfl) ?_ _
                            clear o9 g9 p9 C9 HIA HOA hS9 hSA hS0 HS7 HC7 HIW x91 x92 hgn hyn kA kD
                            go_wp2
                            go_roundw
                            case rel => exact ⟨k + 1, T ++ [x], Rr, _, by omega, by go_num, HI9.out, HPS.out.symm⟩
                            case measure => simp [intOf]; omega
                        · have HPS : Hid (pick (on b) z.toNat (R.take (k + 1)) = (T, Rr ++ [x])) := by
                            show _ = _
                            rw [HSN.out, if_neg]
                            rintro ⟨e1, _⟩
                            exact hz (HZ.out.2 e1)
                          have KW : Hid (Chg no wJ wr) := HCJ.out
                          have HIW := HII.out
                          clear HSN HII HCE
                          have HWL : Hid (Itr w6 g ii b xs (.slice va nT vc) T (.slice ra nr rc) Rr wr) := HIW
                          have hly := HLY.out wr KW.out
                          have HO : Hid ((wr.alloc (.cells #[.int .i64 x] 3)).ownsRow 0 3 1 (.slice ra nr rc) nr (Rr.map (Value.int .i64))) := by
                            have := ((HWL.out.own ((Chg.refl no wr).alloc (.cells #[.int .i64 x] 3))).rst)
                            rw [HNr.out] at this
                            exact owns_base this (Nat.zero_le _)
                          go_wp2_with (at_builtin; refine wpList_append_at rfl _ _ 22 rfl 3 i0 (.int .i64 0) 1 8 Try.underlying22 hi0 hz0 hz1 hz2 rfl (by decide) (.slice ra nr rc) nr (Rr.map (Value.int .i64)) rfl HO.out ⟨wr.heap.size, 0, none⟩ 1 1 [.int .i64 x] rfl rfl news_at (one_i1 _) (by unfold maxLen; omega) (by omega) ?_; intro v5 w5 o5 g5 p5)
                          have HI5 : Hid (Itr w6 g ii b xs (.slice va nT vc) T v5 (Rr ++ [x]) w5) := HWL.out.leave ((Chg.refl no wr).alloc _) HNr.out x o5 g5 p5
                          obtain ⟨a5, c5, rfl⟩ := owns_shape o5
                          clear o5 g5 p5 HO HWL
                          go_wp2
                          go_roundw
                          case rel => exact ⟨k + 1, T, Rr ++ [x], _, by omega, by go_num, HI5.out, HPS.out.symm⟩
                          case measure => simp [intOf]; omega
                  · obtain rfl : nR = k := by omega
                    have hkRi : ¬ ((nR : Int) < nR) := by omega
                    have e : R.take nR = R := by rw [← HNR.out, List.take_length]
                    have HP2 : Hid ((T, Rr) = pick (on b) z.toNat R) := by
                      have := HP.out
                      rw [e] at this
                      exact this
                    have HRN : Hid (Rst w g (.slice ra Rr.length rc) Rr (xs.set ii ⟨b, .slice va T.length vc, T⟩) wr) := HI.out.done HRs.out
                    have HCN : Hid (Chg (fun k => k = g) w5 wr) := HC5.out.then HI.out.chg
                    have HSN : Hid (Stt on z.toNat u s0 (thru lvB u H kk (ii + 1)) Rr (xs.set ii ⟨b, .slice va T.length vc, T⟩)) := by
                      have := HSt.out.add HUN.out (by rw [HML.out]; exact him) HB.out (.slice va T.length vc) HP2.out
                      rw [← thru_add (by rw [HML.out]; exact him) HB.out hql.out] at this
                      exact this
                    clear HI HP e
                    go_wp2
                    go_roundw
                    case rel => exact ⟨ii + 1, Rr, _, by omega, by go_num, HRN.out, HCN.out, HSN.out⟩
                    case measure => simp [intOf]; omega
              · have hd : ((q : Int) != L) = true := by simpa using hqL
                have hql : Hid (¬ lvB b + kk = H) := by show ¬ _; have := HLL.out; have := HQ.out; omega
                go_wp2_with fail
                refine HLV.mono ?_
                rintro e w6 ⟨rfl, rfl⟩
                clear HLV
                go_wp2
                go_roundw
                case rel => exact ⟨ii + 1, R, xs, by omega, by go_num, HRs.out, HC5.out, by rw [thru_skip (by rw [HML.out]; exact him) HB.out hql.out]; exact HSt.out⟩
                case measure => simp [intOf]; omega
            · obtain rfl : m = ii := by omega
              have hmii : ¬ ((m : Int) < m) := by omega
              have wL : IntKind.i64.wrap (L - 1) = L - 1 := by rw [IntKind.wrap_i64]; omega
              clear hRs hSt hC5 hnR
              go_wp2
              go_roundw
              case rel => exact ⟨kk + 1, R, xs, by omega, by have := HLL.out; simp; omega, HRs.out, HC5.out, by rw [thru_zero, ← thru_all, HML.out]; exact HSt.out⟩
              case measure => simp [intOf]; omega
        · obtain rfl : kk = H + 1 := by omega
          have hL : (H : Int) - ((H + 1 : Nat) : Int) = -1 := by omega
          rw [hL]
          have hxl : xs.length = m := by rw [← abs_len, hSt.tabl, tbd_len, HML.out]
          have hall : ∀ b ∈ u, b ∈ thru lvB u H (H + 1) 0 := fun b hb => by
            rw [thru_zero]
            refine (all_mem (fun c hc => ?_) b).2 hb
            have := uni_lv HMP.out.2.2.1 c (by rw [HUU.out]; exact hc)
            simpa using this
          have hplan : fill on z.toNat (thru lvB u H (H + 1) 0) s0 = planF (H : Int) z ls its := by
            rw [thru_zero, HS0.out, ← HON.out, ← HZS.out, ← HUU.out]
            unfold planF
            simp
          have HFl : Hid (Fls wr (.slice (some ⟨g, 0, none⟩) m m) xs) := by
            refine ⟨?_, fun x hx => Lies.old (Lies.of_owns (J := fun _ => True) (hRs.dat x hx).1 (fun _ _ => trivial))⟩
            rw [hxl]
            refine .inr ⟨_, m, rfl, fun _ => lt_of_block hRs.row, fun j v hv => ?_⟩
            rw [Addr.add_lit, Nat.zero_add]
            exact (row_cell hRs.row j v hv).1
          have HAb : Hid (abs xs = (uni (H : Int) ls).map fun b => (b, (planF (H : Int) z ls its).1 b)) := by
            show _ = _
            rw [hSt.tabl, tbd_all _ _ hall, hplan, HUU.out]
          obtain ⟨al, cl, rfl⟩ := owns_shape hRs.lef
          have HLv : Hid (Lies (Old wr) wr (.slice al R.length cl) ((planF (H : Int) z ls its).2.map (Value.int .i64))) := by
            rw [← hplan, ← hSt.left]
            exact Lies.old (Lies.of_owns (J := fun _ => True) hRs.lef (fun _ _ => trivial))
          have HCh : Hid (Chg no w wr) := hRs.chg
          clear hRs hC5 hSt hall hplan hxl
          go_wp2
          go_returns
          exact ⟨_, _, xs, rfl, HFl.out, HAb.out, HLv.out, HCh.out⟩

end Go.Proofs.Ytkaohjlnlgennaa.st
