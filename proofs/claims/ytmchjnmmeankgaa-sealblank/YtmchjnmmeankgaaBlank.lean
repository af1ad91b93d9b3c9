/-
  Proved: for every length, every count and all bytes the law SealBlank returns true; no condition.
-/
import Derived.Test.YtmchjnmmeankgaaArg
import Derived.Test.YtmchjnmmeankgaaArgs
import Derived.Deep.OwnRows
namespace Go.Proofs.Ytmchjnmmeankgaa.sealBlank
open Go.ChangeShapes Go.WideShapes Go.ChangeAt Go.RowKit Go.Proofs.Ytmchjnmmeankgaa.hp Go.Proofs.Ytmchjnmmeankgaa.dg Go.Proofs.Ytmchjnmmeankgaa.st
set_option linter.unusedVariables false

set_option maxRecDepth 100000 in
set_option maxHeartbeats 2000000 in
theorem early (w : World) (l c : Int) (a2 : Option Addr) (l2 c2 : Nat) (hh : l < 1 ∨ 100 < l ∨ c < 0 ∨ 1099511627776 < c ∨ 300 < l2) :
    Calls Try.prog 7 #[.int .i64 l, .int .i64 c, .slice a2 l2 c2] w fun e w' => e = .returned (.bool true) ∧ Below w.heap.size w w' := by
  have hc : (l < 1) ∨ (1 ≤ l ∧ 100 < l) ∨ (1 ≤ l ∧ l ≤ 100 ∧ c < 0) ∨ (1 ≤ l ∧ l ≤ 100 ∧ 0 ≤ c ∧ 1099511627776 < c) ∨ (1 ≤ l ∧ l ≤ 100 ∧ 0 ≤ c ∧ c ≤ 1099511627776 ∧ 300 < (l2 : Int)) := by omega
  clear hh
  rcases hc with h1 | ⟨h1, h2⟩ | ⟨h1, h2, h3⟩ | ⟨h1, h2, h3, h4⟩ | ⟨h1, h2, h3, h4, h5⟩
  all_goals
    go_enter Try.func7, Try.ntmps7
    go_wp2_with fail
    refine (first_any _).mono ?_
    rintro e w1 ⟨rfl, k1⟩
    go_wp2_with fail
    refine (first_any _).mono ?_
    rintro e w3 ⟨rfl, k3⟩
    go_wp2
    go_ret
    exact ⟨rfl, (k1.then k3).below⟩

set_option maxRecDepth 100000 in
set_option maxHeartbeats 8000000 in
theorem late (w : World) (L : Nat) (c : Int) (a2 : Option Addr) (c2 : Nat) (z2 : List Int) (h2 : Lies (fun _ => True) w (.slice a2 z2.length c2) (z2.map (Value.int .u8))) (b2 : Bytes z2) (h1 : 1 ≤ L) (hL : L ≤ 100) (hc1 : 0 ≤ c) (hc2 : c ≤ 1099511627776) (e2 : z2.length ≤ 300) :
    Calls Try.prog 7 #[.int .i64 L, .int .i64 c, .slice a2 z2.length c2] w fun e w' => e = .returned (.bool true) ∧ Below w.heap.size w w' := by
  have i1 : (1 : Int) ≤ L := by omega
  have i2 : (L : Int) ≤ 100 := by omega
  have i3 : (z2.length : Int) ≤ 300 := by omega
  obtain ⟨i0, hi0, hz0, hz1, hz2⟩ := info_parts info5
  have hm0 : may 0 c = true := decide_eq_true (by omega)
  have hm1 : may 1 c = true := decide_eq_true (by omega)
  have hok := fresh_ok [] L h1 (by omega)
  obtain ⟨tx, htx⟩ : ∃ tx, fit z2 L = tx := ⟨_, rfl⟩
  have hxl : tx.length = L := by rw [← htx]; exact fit_length _ _
  have HXL : Hid (tx.length = L) := hxl
  have HXB : Hid (Bytes tx) := by rw [← htx]; exact fit_bytes b2 L
  obtain ⟨nb0, hnb0⟩ : ∃ nb, nbs 0 c = nb := ⟨_, rfl⟩
  obtain ⟨nb1, hnb1⟩ : ∃ nb, nbs 1 c = nb := ⟨_, rfl⟩
  have HNB0 : Hid (nb0.length = 12 ∧ Bytes nb0) := by rw [← hnb0]; exact ⟨nbs_length _ _, nbs_bytes _ _⟩
  have HNB1 : Hid (nb1.length = 12 ∧ Bytes nb1) := by rw [← hnb1]; exact ⟨nbs_length _ _, nbs_bytes _ _⟩
  have HBY0 := fun w => bytes_any w 0 c
  have HBY1 := fun w => bytes_any w 1 c
  rw [hnb0] at HBY0
  rw [hnb1] at HBY1
  obtain ⟨S, hS⟩ : ∃ S, OS.fresh [] L = S := ⟨_, rfl⟩
  have HC0 : Hid (S.code (nb0 ++ tx) = 0 ∧ S.text (nb0 ++ tx) = List.replicate L 0) := by rw [← hS, ← hnb0]; exact blank_zero hm0 hxl
  have HC1 : Hid (S.code (nb1 ++ tx) = 5 ∧ S.text (nb1 ++ tx) = []) := by rw [← hS, ← hnb1]; exact blank_none (by omega) hm1 hxl
  have HC2 : Hid (S.code (nb0 ++ (tx ++ [0])) = 2 ∧ S.text (nb0 ++ (tx ++ [0])) = []) := by
    rw [← hS]
    refine blank_form ?_
    have := HNB0.out.1
    simp
    omega
  have HOK : Hid S.Ok := by rw [← hS]; exact hok
  have HSL : Hid (S.L = L ∧ S.ks = [] ∧ S.pl = []) := by rw [← hS]; exact ⟨rfl, rfl, rfl⟩
  have HWY : Hid (S.why 0 c L = 1) := by
    show S.why 0 c L = 1
    rw [← hS]
    unfold OS.why
    rw [if_pos (.inr rfl)]
  have HFI : Hid (Fits (0, c)) := fits_may hm0
  have HZ : Hid (Lies (fun _ => True) w (.slice a2 z2.length c2) (z2.map (Value.int .u8))) := h2
  have HFL : Hid (fit z2 L = tx) := htx
  clear h2 b2 hm0 hm1 hok htx hxl hnb0 hnb1
  go_enter Try.func7, Try.ntmps7
  go_wp2_with fail
  refine (first_any _).mono ?_
  rintro e w1 ⟨rfl, k1⟩
  have HP := newPads_any (.slice none 0 0) [] no w1 (.inl ⟨rfl, rfl⟩) (by simp)
  go_wp2_with fail
  refine HP.mono ?_
  rintro e w2 ⟨q, tv, rfl, T2, hq, htv, k2, hql⟩
  have HN := new_ok T2 L h1 (by omega)
  rw [hS] at HN
  clear HP
  go_wp2_with fail
  refine HN.mono ?_
  rintro e w3 ⟨p, rfl, O3, k3⟩
  have K3 : Chg no w w3 := (k1.then k2).then k3
  obtain ⟨F, hF⟩ : ∃ F : Nat → Prop, F = fun k => k = q ∨ tv.ownBlock = some k ∨ (w2.heap.size ≤ k ∧ k < w3.heap.size) := ⟨_, rfl⟩
  rw [← hF] at O3
  have HRF := rfill_any w3 (.slice a2 z2.length c2) z2 L (Lies.chg HZ.out K3 (fun _ _ h => h)) (by omega)
  rw [HFL.out] at HRF
  clear HN T2 hF htv k1 k2 k3 hS hq hql HZ HFL
  go_wp2_with fail
  refine HRF.mono ?_
  rintro e w4 ⟨rfl, g4, k4⟩
  have K4 := K3.then k4
  have O4 := O3.chg k4 (fun _ _ h => h)
  obtain ⟨T, hT⟩ : ∃ T, w3.heap.size = T := ⟨_, rfl⟩
  rw [hT] at g4 ⊢
  have HTL : Hid (∀ w', Chg no w4 w' → Lies (fun _ => True) w' (.slice (some ⟨T, 0, none⟩) L L) (tx.map (Value.int .u8))) := by
    intro w' k
    have := (block_lies g4).mono (K := fun _ => True) (fun _ _ => trivial)
    rw [HXL.out] at this
    exact this.chg k (fun _ _ h => h)
  have HTO : Hid (∀ w', Chg no w4 w' → w'.ownsRow 0 5 1 (.slice (some ⟨T, 0, none⟩) L L) L (tx.map (Value.int .u8))) := fun w' k => owns_block (k.heap g4 id) HXL.out (by unfold maxLen; omega)
  have hTl : T < w4.heap.size := lt_of_block g4
  have HO4 : Hid (Orc p q S w4 F) := O4
  have HFT : Hid (∀ k, F k → k < T) := by rw [← hT]; exact O3.lt
  have HTW : Hid (w.heap.size ≤ T) := by rw [← hT]; exact K3.size
  clear HRF O3 k4 K3 hT g4 O4
  go_wp2_with fail
  refine (HBY0 _).mono ?_
  rintro e w5 ⟨b5, rfl, hb5, g5, k5⟩
  obtain ⟨CZ0, hCZ0⟩ : ∃ CZ, nb0 ++ tx = CZ := ⟨_, rfl⟩
  have HCZ0 : Hid (nb0 ++ tx = CZ0) := hCZ0
  rw [hCZ0] at HC0
  clear hCZ0
  go_wp2_with (at_builtin; refine wpList_append_grew rfl _ _ 22 rfl 5 i0 (.int .u8 0) 1 Try.underlying22 hi0 hz0 hz1 hz2 rfl (.slice (some ⟨b5, 0, none⟩) 12 12) 12 (nb0.map (Value.int .u8)) rfl (owns_block g5 HNB0.out.1 (by unfold maxLen; omega)) (fun _ => True) (.slice (some ⟨T, 0, none⟩) L L) (tx.map (Value.int .u8)) rfl (HTL.out _ k5) (ints_oneCell _ _) (by have := HXL.out; simp; unfold maxLen; omega) (by have := HXL.out; simp; omega) ?_; intro v6 w6 G6; have N6 := grew_new k5 (fun b hb => by cases hb; exact hb5) HNB0.out.1 G6 HCZ0.out; obtain ⟨x6, c6, rfl⟩ := N6.shape; clear G6)
  have HO := open_new (HO4.out.chg N6.2 (fun _ _ h => h)) HOK.out (by have := HXL.out; have := HNB0.out.1; rw [← HCZ0.out]; simp; omega) N6 (by rw [← HCZ0.out]; exact HNB0.out.2.append HXB.out)
  unfold Opened at HO
  rw [HC0.out.1, HC0.out.2] at HO
  have K6 := N6.2
  clear N6 g5 k5 hb5
  refine HO.mono ?_
  rintro e w7 ⟨v7, rfl, N7⟩
  obtain ⟨x7, c7, rfl⟩ := N7.shape
  have K7 := K6.then N7.2
  have HL7 : Hid (Lies (fun k => T < k ∧ k < w7.heap.size) w7 (.slice x7 L c7) ((List.replicate L (0 : Int)).map (Value.int .u8))) := by
    have s6 := K6.size
    have := N7.lies.mono (K := fun k => T < k ∧ k < w7.heap.size) (fun k hk => ⟨by omega, hk.2⟩)
    rw [List.length_replicate] at this
    exact this
  simp only [List.length_replicate]
  clear HO N7 K6
  go_wp2_with fail
  refine (HBY1 _).mono ?_
  rintro e w8 ⟨b8, rfl, hb8, g8, k8⟩
  have K8 := K7.then k8
  obtain ⟨CZ1, hCZ1⟩ : ∃ CZ, nb1 ++ tx = CZ := ⟨_, rfl⟩
  have HCZ1 : Hid (nb1 ++ tx = CZ1) := hCZ1
  rw [hCZ1] at HC1
  clear hCZ1
  go_wp2_with (at_builtin; refine wpList_append_grew rfl _ _ 22 rfl 5 i0 (.int .u8 0) 1 Try.underlying22 hi0 hz0 hz1 hz2 rfl (.slice (some ⟨b8, 0, none⟩) 12 12) 12 (nb1.map (Value.int .u8)) rfl (owns_block g8 HNB1.out.1 (by unfold maxLen; omega)) (fun _ => True) (.slice (some ⟨T, 0, none⟩) L L) (tx.map (Value.int .u8)) rfl (HTL.out _ K8) (ints_oneCell _ _) (by have := HXL.out; simp; unfold maxLen; omega) (by have := HXL.out; simp; omega) ?_; intro v9 w9 G9; have N9 := grew_new k8 (fun b hb => by cases hb; exact hb8) HNB1.out.1 G9 HCZ1.out; obtain ⟨x9, c9, rfl⟩ := N9.shape; clear G9)
  have K9 := K7.then N9.2
  have HO := open_new (HO4.out.chg K9 (fun _ _ h => h)) HOK.out (by have := HXL.out; have := HNB1.out.1; rw [← HCZ1.out]; simp; omega) N9 (by rw [← HCZ1.out]; exact HNB1.out.2.append HXB.out)
  unfold Opened at HO
  rw [HC1.out.1, HC1.out.2] at HO
  have HK79 : Hid (Chg no w7 w9) := N9.2
  clear N9 g8 k8 hb8 K8 K7
  refine HO.mono ?_
  rintro e wA ⟨vA, rfl, NA⟩
  obtain ⟨xA, cA, rfl⟩ := NA.shape
  have KA := K9.then NA.2
  have HK7A : Hid (Chg no w7 wA) := HK79.out.then NA.2
  clear HO NA K9 HK79
  go_wp2_with fail
  refine (HBY0 _).mono ?_
  rintro e wB ⟨bB, rfl, hbB, gB, kB⟩
  have KB := KA.then kB
  have lz : Lies (fun k => k = wB.heap.size) (wB.alloc (.cells #[.int .u8 0] 5)) (.slice (some ⟨wB.heap.size, 0, none⟩) 1 1) (([0] : List Int).map (Value.int .u8)) := lies_new [.int .u8 0] 5
  have KC : Chg no w4 (wB.alloc (.cells #[.int .u8 0] 5)) := KB.alloc _
  obtain ⟨wC, hwC⟩ : ∃ wC, wB.alloc (.cells #[.int .u8 0] 5) = wC := ⟨_, rfl⟩
  have kBC : Chg no wB wC := by rw [← hwC]; exact (Chg.refl no wB).alloc _
  rw [hwC] at lz KC
  obtain ⟨CZ2, hCZ2⟩ : ∃ CZ, nb0 ++ (tx ++ [0]) = CZ := ⟨_, rfl⟩
  have HCZ2 : Hid (nb0 ++ (tx ++ [0]) = CZ2) := hCZ2
  rw [hCZ2] at HC2
  clear hCZ2
  have hsA := KA.size
  have hsB := kB.size
  have hbBT : bB ≠ T := by omega
  have gC := kBC.heap gB id
  go_wp2_with (first
    | (at_builtin; refine wpList_append_grew rfl (.tmp 80) _ 22 rfl 5 i0 (.int .u8 0) 1 Try.underlying22 hi0 hz0 hz1 hz2 rfl (.slice (some ⟨T, 0, none⟩) L L) L (tx.map (Value.int .u8)) rfl (HTO.out _ KC) (fun k => k = wB.heap.size) (.slice (some ⟨wB.heap.size, 0, none⟩) 1 1) (([0] : List Int).map (Value.int .u8)) rfl lz (ints_oneCell _ _) (by simp; unfold maxLen; omega) (by simp; omega) ?_; intro vD wD GD; have kCD : Chg (fun k => k = T) wC wD := (Chg.refl _ wC).grown GD.grown (fun k hk => by cases hk; exact .inl rfl); have gD := kCD.heap gC hbBT; have oD := GD.own; rw [← List.map_append] at oD; have tD := GD.keep (.slice (some ⟨T, 0, none⟩) L L) L (tx.map (Value.int .u8)) (HTO.out _ KC) (fun _ _ _ => by rw [List.take_of_length_le]; simp [HXL.out]); obtain ⟨xD, cD, rfl⟩ := owns_shape oD; clear GD)
    | (at_builtin; refine wpList_append_grew rfl (.tmp 79) _ 22 rfl 5 i0 (.int .u8 0) 1 Try.underlying22 hi0 hz0 hz1 hz2 rfl (.slice (some ⟨bB, 0, none⟩) 12 12) 12 (nb0.map (Value.int .u8)) rfl (owns_block gD HNB0.out.1 (by unfold maxLen; omega)) (fun _ => True) (.slice xD _ cD) ((tx ++ [0]).map (Value.int .u8)) rfl (Lies.of_owns oD (fun _ _ => trivial)) (ints_oneCell _ _) (by have := HXL.out; simp; unfold maxLen; omega) (by have := HXL.out; simp; omega) ?_; intro vE wE GE; have kDE : Chg (fun k => k = bB) wD wE := (Chg.refl _ wD).grown GE.grown (fun k hk => by cases hk; exact .inl rfl); have oE := GE.own; rw [← List.map_append, HCZ2.out] at oE; obtain ⟨xE, cE, rfl⟩ := owns_shape oE; clear GE))
  have lE : CZ2.length = 12 + (tx.length + 1) := by
    rw [← HCZ2.out]
    have := HNB0.out.1
    simp
    omega
  have KWC : Chg no w wC := K4.then KC
  have KWE : Chg no w wE := (KWC.trans kCD (fun k hk => .inr (by rw [hk]; exact HTW.out))).trans kDE (fun k hk => .inr (by have := HTW.out; omega))
  have OE : Orc p q S wE F := ((HO4.out.chg KC (fun _ _ h => h)).chg kCD (fun k hk e => by have := HFT.out k hk; omega)).chg kDE (fun k hk e => by have := HFT.out k hk; omega)
  have tE : Lies (fun _ => True) wE (.slice (some ⟨T, 0, none⟩) L L) (tx.map (Value.int .u8)) := Lies.of_owns (kDE.owns tD (fun k hk e => by cases hk; exact hbBT e.symm)) (fun _ _ => trivial)
  have HO := open_len OE HOK.out.l2 xE cE CZ2 (by have := HXL.out; have := HSL.out.1; omega) (by have := HXL.out; omega)
  rw [lE] at HO
  unfold Opened at HO
  rw [HC2.out.1, HC2.out.2] at HO
  have HK7E : Hid (Chg (fun k => k = T ∨ k = bB) w7 wE) := ((((HK7A.out.then kB).then kBC).of_no _).trans (kCD.mono (G := fun k => k = T ∨ k = bB) (fun x hx => .inl (.inl hx))) (fun x hx => .inl hx)).trans (kDE.mono (G := fun k => k = T ∨ k = bB) (fun x hx => .inl (.inr hx))) (fun x hx => .inl hx)
  clear oE oD tD gD gC gB kCD kDE kBC KC KB KA lz kB hwC lE HBY0 HBY1 HTL HTO
  refine HO.mono ?_
  rintro e wF ⟨vF, rfl, NF⟩
  obtain ⟨xF, cF, rfl⟩ := NF.shape
  have OF := OE.chg NF.2 (fun _ _ h => h)
  have KWF := KWE.then NF.2
  have tF := tE.chg NF.2 (fun _ _ h => h)
  have HSE := seal_err OF 0 c HFI.out _ tx tF (by have := HXL.out; omega) HOK.out.l2 (by rw [HXL.out, HWY.out]; decide)
  rw [HXL.out, HWY.out] at HSE
  have HKF : Hid (Chg no wE wF) := NF.2
  clear HO NF OE KWE tE tF
  go_wp2_with fail
  refine HSE.mono ?_
  rintro e wG ⟨rfl, kG⟩
  have OG := OF.chg kG (fun _ _ h => h)
  have KWG := KWF.then kG
  clear HSE OF KWF
  go_wp2_with fail
  refine (first_any _).mono ?_
  rintro e wH ⟨rfl, kH⟩
  have OH := OG.chg kH (fun _ _ h => h)
  have KWH := KWG.then kH
  have HKH : Hid (Chg no wE wH) := (HKF.out.then kG).then kH
  clear OG KWG kG kH HKF
  have hmake := fun w => run_make_row' (P := Try.prog) 22 5 (.int .u8 0) 1 Try.underlying22 info5 rfl .i64 .i64 L (by omega) (by omega) w
  have kI : Chg no wH (wH.alloc (.cells (madeCells #[.int .u8 0] L) 5)) := (Chg.refl no wH).alloc _
  have lI : Lies (fun _ => True) (wH.alloc (.cells (madeCells #[.int .u8 0] L) 5)) (.slice (some ⟨wH.heap.size, 0, none⟩) L L) ((List.replicate L (0 : Int)).map (Value.int .u8)) := by
    have e : madeCells #[Value.int .u8 0] L = (((List.replicate L (0 : Int)).map (Value.int .u8)).toArray) := by
      rw [List.map_replicate, ← toList_madeCells_one]
    rw [e]
    have := lies_new (w := wH) ((List.replicate L (0 : Int)).map (Value.int .u8)) 5
    simp only [List.length_map, List.length_replicate] at this
    exact this.mono (fun _ _ => trivial)
  have l7 : Lies (fun _ => True) (wH.alloc (.cells (madeCells #[.int .u8 0] L) 5)) (.slice x7 L c7) ((List.replicate L (0 : Int)).map (Value.int .u8)) := by
    have sA := HK7A.out.size
    have l1 := Lies.chg HL7.out HK7E.out (fun k hk e => by rcases e with e | e <;> omega)
    exact ((l1.chg HKH.out (fun _ _ h => h)).chg kI (fun _ _ h => h)).mono (fun _ _ => trivial)
  have HB := bytes_same l7 lI
  have KWI := KWH.then kI
  have OI := OH.chg kI (fun _ _ h => h)
  clear l7 lI HL7 HK7E HKH HK7A KWH OH kI
  go_wp2_with fail
  refine HB.mono ?_
  rintro e wJ ⟨rfl, rfl⟩
  clear HB hmake
  obtain ⟨wJ, hwJ⟩ : ∃ wJ, wH.alloc (.cells (madeCells #[.int .u8 0] L) 5) = wJ := ⟨_, rfl⟩
  rw [hwJ] at OI KWI ⊢
  obtain ⟨t0, t1, tv', TT⟩ := OI.tape
  have hks : S.ks.length * S.L = 0 := by rw [HSL.out.2.1]; simp
  rw [hks] at TT
  have HD := drawn_any TT
  have hplJ := OI.plt
  have HPN := plain_new OI (by rw [HSL.out.2.2]; simp)
  rw [HSL.out.2.2] at HPN
  clear hwJ TT hks
  go_wp2_with fail
  refine HD.mono ?_
  rintro e wK ⟨rfl, rfl⟩
  clear HD
  go_wp2_with fail
  refine HPN.mono ?_
  rintro e wL ⟨vL, rfl, NL⟩
  obtain ⟨xL, cL, rfl⟩ := NL.shape
  have KWL := KWI.then NL.2
  clear HPN NL
  go_wp2
  go_ret
  exact ⟨rfl, KWL.below⟩

theorem walk (w : World) (a0 a1 : Int) (a2 : Option Addr) (l2 c2 : Nat) (z2 : List Int) (w0 : (Lit.int .i64 a0).wf = true) (w1 : (Lit.int .i64 a1).wf = true) (w2 : Lies (Old w) w (.slice a2 l2 c2) (z2.map (Value.int .u8)) ∧ Bytes z2) (k2 : l2 ≤ c2) :
    Calls Try.prog 7 #[.int .i64 a0, .int .i64 a1, .slice a2 l2 c2] w fun e w' => e = .returned (.bool true) ∧ Below w.heap.size w w' := by
  by_cases hh : a0 < 1 ∨ 100 < a0 ∨ a1 < 0 ∨ 1099511627776 < a1 ∨ 300 < l2
  · exact early w a0 a1 a2 l2 c2 hh
  · obtain ⟨x2, y2, h2, _⟩ := w2.1.slice
    rw [List.length_map] at h2
    cases h2
    obtain ⟨L, rfl⟩ := Int.eq_ofNat_of_zero_le (show 0 ≤ a0 by omega)
    exact late w L a1 a2 c2 z2 (w2.1.mono (fun _ _ => trivial)) w2.2 (by omega) (by omega) (by omega) (by omega) (by omega)

theorem own : ownKnob Try.prog.godebug = none := by kernel_rfl
theorem laidOut : laidOutB Try.prog = true := by kernel_rfl

set_option maxRecDepth 100000 in
theorem lifted (os : Os) (started : os.Started) (H : Type) (enc : TypeId × Value → H) :
    ReturnsInHanded {} Try.checked os 7 .any (Rows.sealBlankSpec.pre6 enc Try.prog Try.f7 Rows.sealBlankRow.domain false) (Rows.sealBlankSpec.post enc Try.prog Try.f7 false true false false) := by
  refine returnsInHanded_of_change (C := Try.checked) own started (by kernel_rfl) Try.func7
    (ChangeSpec.witness6 (enc := enc) (C := Try.checked) false ⟨#[], #[.int .i64 0, .int .i64 0, .slice none 0 0], []⟩ 8 (by kernel_rfl) (by kernel_rfl) (by kernel_rfl) (by kernel_rfl)) ?_
  intro W base args ds gs before hval0 hW hcnd _
  have hval : ∀ (j : Nat) t v, Try.f7.params[j]? = some t → args[j]? = some v → Value.okWide Try.prog W .any base t v := hval0
  have hW' := hW
  obtain ⟨p, q, hA0, hV, rfl, hfz, hnd⟩ := hW
  have hA : DataW.TrodAll enc Try.prog W 0 (fun _ => true) true Try.f7.params.toList args.toList ds p := hA0
  rw [Try.params7] at hA hval
  obtain ⟨v0, vs0, d0, ds0, p0, q0, hargs, rfl, rfl, h0, r0⟩ := trodAll_cons hA
  obtain ⟨v1, vs1, d1, ds1, p1, q1, rfl, rfl, rfl, h1, r1⟩ := trodAll_cons r0
  obtain ⟨v2, vs2, d2, ds2, p2, q2, rfl, rfl, rfl, h2, r2⟩ := trodAll_cons r1
  obtain ⟨rfl, rfl, rfl⟩ := trodAll_nil r2
  obtain rfl : args = #[v0, v1, v2] := by cases args; simp_all
  obtain ⟨rfl, rfl⟩ := trodVars_none hV
  obtain ⟨a0, rfl, rfl, rfl, w0⟩ := open_int Try.underlying3 (hval 0 3 v0 rfl rfl) h0
  obtain ⟨a1, rfl, rfl, rfl, w1⟩ := open_int Try.underlying3 (hval 1 3 v1 rfl rfl) h1
  obtain ⟨a2, len2, cap2, rfl⟩ := okWide_slice Try.underlying22 (hval 2 22 v2 rfl rfl)
  have k2 := h2
  have lt2 : ∀ x ∈ p2, x.block < W.heap.size := by obtain ⟨m, hm⟩ := k2; exact DataW.trod_lt m _ _ _ hm
  have c2 : len2 ≤ cap2 := by obtain ⟨m, hm⟩ := k2; exact (open_cap Try.underlying22 hm).1
  obtain ⟨z2, w2⟩ := (by obtain ⟨fuel, hf⟩ := h2; exact open_bytes hf : ∃ z : List Int, Lies (Old W) W (.slice a2 len2 cap2) (z.map (Value.int .u8)) ∧ Bytes z)
  clear hA0 hval0
  refine (walk W a0 a1 a2 len2 cap2 z2 w0 w1 w2 c2).mono fun e W' ⟨he, bel⟩ => ?_
  subst he
  exact ⟨_, rfl, _, _, _, [], _, [], hW', trodAll_mk1 (shut_bool Try.underlying4 _), (trodAll_cons_mk (shut_int Try.underlying3 w0) (trodAll_cons_mk (shut_int Try.underlying3 w1) (trodAll_cons_mk (Below.trod laidOut (by kernel_rfl) (of_decide_eq_true (by kernel_rfl)) k2 bel lt2) trodAll_mk0))), rfl, bel.frame _, fun h => by cases h⟩

theorem over : Rows.sealBlankRow.holds Try.pinned (OpenSpec.ofChange Rows.sealBlankSpec) :=
  OpenClaim.holds_of_wide 7 Try.f7 rfl rfl rfl rfl rfl rfl rfl ⟨rfl, rfl, rfl, rfl, rfl⟩ rfl rfl rfl rfl rfl (by kernel_rfl) Try.func7 (by kernel_rfl)
    (of_decide_eq_true (by kernel_rfl)) (by unfold Func.isWrapper; first | (rw [if_pos (by decide +kernel)]; kernel_rfl) | (rw [if_neg (by decide +kernel)]; exact ⟨rfl, rfl⟩))
    (fun os started H enc _ => lifted os started H enc)

theorem proved : Rows.SealBlankSaid := over
#print axioms proved
end Go.Proofs.Ytmchjnmmeankgaa.sealBlank
namespace Go.Proofs.Ytmchjnmmeankgaa
theorem sealBlank_holds : Rows.SealBlankSaid := sealBlank.proved
#print axioms sealBlank_holds
end Go.Proofs.Ytmchjnmmeankgaa
