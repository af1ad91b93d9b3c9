/-
  Proved: for every height the law TreeCounts returns true; no condition.
-/
import Derived.Test.YtgdhbkhhholkgaaCnm
import Derived.Below
namespace Go.Proofs.Ytgdhbkhhholkgaa.treeCounts
open Go.ChangeShapes Go.WideShapes Go.ChangeAt Go.RowKit Go.Proofs.Ytgdhbkhhholkgaa.hp Go.Proofs.Ytgdhbkhhholkgaa.tm Go.Proofs.Ytgdhbkhhholkgaa.st
set_option linter.unusedVariables false

set_option maxRecDepth 100000 in
set_option maxHeartbeats 2000000 in
theorem early (w : World) (h : Int) (hk : okH h = false) :
    Calls Try.prog 7 #[.int .i64 h] w fun e w' => e = .returned (.bool true) ∧ Below w.heap.size w w' := by
  have H10 : Hid (∀ w, Calls Try.prog 10 #[.int .i64 h] w fun e w' => e = .returned (.bool false) ∧ w' = w) := by
    intro w
    have := may_any w h
    rw [hk] at this
    exact this
  have H11 : Hid (∀ w, Calls Try.prog 11 #[.int .i64 h] w fun e w' => e = .returned (.int .i64 0) ∧ w' = w) := by
    intro w
    have := buckets_any w h
    rw [bks_badH hk] at this
    exact this
  have H13 : Hid (∀ w, Calls Try.prog 13 #[.int .i64 h] w fun e w' => e = .returned (.int .i64 0) ∧ w' = w) := by
    intro w
    have := leaves_any w h
    rw [show lvs h = 0 by unfold lvs; rw [hk]; rfl] at this
    exact this
  have H15 : Hid (∀ w, Calls Try.prog 15 #[.int .i64 h, .int .i64 0] w fun e w' => ∃ v, e = .returned v ∧ New w [] v w') := by
    intro w
    have := path_any w h 0
    rw [pathI_none (okL_badH hk)] at this
    exact this
  clear hk
  go_enter Try.func7, Try.ntmps7
  go_wp2_with fail
  refine (first_any _).mono ?_
  rintro e w1 ⟨rfl, k1⟩
  go_wp2_with fail
  refine (H10.out _).mono ?_
  rintro e w2 ⟨rfl, rfl⟩
  go_wp2_with fail
  refine (first_any _).mono ?_
  rintro e w3 ⟨rfl, k3⟩
  go_wp2_with fail
  refine (H11.out _).mono ?_
  rintro e w4 ⟨rfl, rfl⟩
  go_wp2_with fail
  refine (H13.out _).mono ?_
  rintro e w4 ⟨rfl, rfl⟩
  go_wp2_with fail
  refine (H15.out _).mono ?_
  rintro e w5 ⟨v5, rfl, N5⟩
  obtain ⟨x5, c5, rfl⟩ := N5.shape
  simp only [List.length_nil]
  go_wp2
  go_ret
  exact ⟨rfl, ((k1.then k3).then N5.2).below⟩

set_option maxRecDepth 100000 in
set_option maxHeartbeats 8000000 in
theorem late (w : World) (h : Nat) (h1 : h ≤ 6) :
    Calls Try.prog 7 #[.int .i64 h] w fun e w' => e = .returned (.bool true) ∧ Below w.heap.size w w' := by
  obtain ⟨i0, hi, hz0, hz1, hz2⟩ := info_parts info3
  have hp := pow_le6 h h1
  have H10 : Hid (∀ w, Calls Try.prog 10 #[.int .i64 h] w fun e w' => e = .returned (.bool true) ∧ w' = w) := by
    intro w
    have := may_any w h
    rw [(okH_iff h).2 ⟨by omega, by omega⟩] at this
    exact this
  have H11 : Hid (∀ w, Calls Try.prog 11 #[.int .i64 h] w fun e w' => e = .returned (.int .i64 ((2 * 2 ^ h - 1 : Nat) : Int)) ∧ w' = w) := by
    intro w
    have := buckets_any w h
    rw [bks_of h1] at this
    exact this
  have H13 : Hid (∀ w, Calls Try.prog 13 #[.int .i64 h] w fun e w' => e = .returned (.int .i64 ((2 ^ h : Nat) : Int)) ∧ w' = w) := by
    intro w
    have := leaves_any w h
    rw [lvs_of h1] at this
    exact this
  have H15 : Hid (∀ w i, i < 2 ^ h → Calls Try.prog 15 #[.int .i64 h, .int .i64 (i : Nat)] w fun e w' => ∃ v, e = .returned v ∧ New w (path h i) v w') := fun w i hi => path_some w h i h1 hi
  have H15V : Hid (∀ i : Nat, i < 2 ^ h → pathI h i = path h i) := fun i hi => pathI_of h1 hi
  have H17 : Hid (∀ w (b : Nat), b ≤ 127 → Calls Try.prog 17 #[.int .i64 b] w fun e w' => e = .returned (.int .i64 (lvl b)) ∧ w' = w) := by
    intro w b hb
    have := level_any w b (by omega)
    rw [show lvlI (b : Int) = (lvl b : Int) by simp [lvlI]] at this
    exact this
  have HU : Hid (∀ (J : Nat → Prop) (w : World) (v : Value), Lies J w v ((lead (2 ^ h)).map (Value.int .i64)) → Calls Try.prog 24 #[.int .i64 h, v] w fun e w' => ∃ v', e = .returned v' ∧ New w (uni h (lead (2 ^ h))) v' w') := fun J w v hv => union_any w h v _ hv (by rw [lead_length]; omega)
  have HUF : Hid ((uni h (lead (2 ^ h))).length = 2 * 2 ^ h - 1) := uni_full h1
  have HCF : Hid (∀ b : Nat, b < 2 * 2 ^ h - 1 → ((wys h (lead (2 ^ h))).count (b : Int) : Int) = 2 ^ (h - lvl b) ∧ lvl b ≤ h) := by
    intro b hb
    refine ⟨?_, lvl_le h1 hb⟩
    rw [count_full h1 hb, pow_cast]
  have HTL : Hid (∀ S, (tally h S).length = 2 * 2 ^ h - 1) := fun S => tally_length h S
  have HTG : Hid (∀ (S : List Int) (b : Nat), b < 2 * 2 ^ h - 1 → (tally h S)[b]? = some (S.count (b : Int) : Int)) := fun S b hb => tally_get h S b hb
  have HT0 : Hid (tally h (wys h (lead 0)) = List.replicate (2 * 2 ^ h - 1) 0) := tally_nil h
  have HBA : Hid (∀ l k, l < 2 ^ h → k ≤ h → bat h l k < 2 * 2 ^ h - 1) := fun l k hl hk => (bat_facts h1 hl hk).2.1
  have HAD : Hid (∀ (w1 : World) (w : World) (g N b : Nat) (S A : List Int) (va : Value), Cnt w g N h S va A w1 → b < 2 * 2 ^ h - 1 → Cnt w g N h (S ++ [(b : Int)]) va A (w1.setCell ⟨g, b, none⟩ (.int .i64 ((S.count (b : Int) : Int) + 1)))) := fun w1 w g N b S A va c hb => c.add hb
  have HMR : Hid (((2 * 2 ^ h - 1 : Nat) : Int) = 2 * ((2 ^ h : Nat) : Int) - 1) := by
    show ((2 * 2 ^ h - 1 : Nat) : Int) = 2 * ((2 ^ h : Nat) : Int) - 1
    omega
  obtain ⟨N, hN⟩ : ∃ N, 2 * 2 ^ h - 1 = N := ⟨_, rfl⟩
  rw [hN] at H11 HUF HCF HTL HTG HT0 HBA HAD HMR
  obtain ⟨V, hV⟩ : ∃ V, 2 ^ h = V := ⟨_, rfl⟩
  rw [hV] at H13 H15 H15V HU HUF HCF HBA HMR
  have n1 : N ≤ 127 := by omega
  have v1 : V ≤ 64 := by omega
  have n1i : (N : Int) ≤ 127 := by omega
  have v1i : (V : Int) ≤ 64 := by omega
  have i1 : (h : Int) ≤ 6 := by omega
  clear hN hV hp
  go_enter Try.func7, Try.ntmps7
  go_wp2_with fail
  refine (first_any _).mono ?_
  rintro e w1 ⟨rfl, k1⟩
  go_wp2_with fail
  refine (H10.out _).mono ?_
  rintro e w2 ⟨rfl, rfl⟩
  go_wp2_with fail
  refine (H11.out _).mono ?_
  rintro e w2 ⟨rfl, rfl⟩
  go_wp2_with (at_make; refine wpList_make_full _ rfl _ _ 27 rfl w2.heap.size 3 i0 (.int .i64 0) 1 Try.underlying27 hi hz0 hz1 .i64 .i64 N N N rfl rfl rfl rfl ?c1 ?c2 ?c3 ?_)
  case c1 => rw [hz2]; omega
  case c2 => unfold maxLen; omega
  case c3 => omega
  intro w3 hown hg
  have HC0 : Hid (Cnt w2 w2.heap.size N h (wys h (lead 0)) (.slice none 0 0) (lead 0) w3) := by
    refine ⟨⟨?_, (Chg.refl no w2).grown hg (by simp)⟩, World.ownsRow_nil _ _ _ _⟩
    rw [HTL.out, HT0.out, List.map_replicate]
    rw [toList_madeCells_one] at hown
    exact hown
  obtain ⟨g, hgg⟩ : ∃ g, w2.heap.size = g := ⟨_, rfl⟩
  rw [hgg] at HC0 ⊢
  have HK : Hid (Chg no w w2) := k1
  clear hown hg H10 H11 k1
  go_wp2_with fail
  go_loopw [4, 5] (fun va i wr => ∃ j : Nat, j ≤ V ∧ i = .int .i64 (j : Int) ∧ Cnt w2 g N h (wys h (lead j)) va (lead j) wr) (fun _ i _ => V - (intOf i).toNat)
  case atStart => exact ⟨0, by omega, rfl, HC0.out⟩
  case round =>
    clear HC0
    obtain ⟨j, hj, rfl, hC⟩ := hrel
    obtain ⟨xa, xc, rfl⟩ := owns_shape hC.all
    by_cases hjV : j < V
    · have hjVi : (j : Int) < V := by omega
      have hCl := hC.row.2
      have hll := lead_length j
      rw [hll]
      have HE : Hid (lead j ++ [(j : Int)] = lead (j + 1)) := (lead_succ j).symm
      have HWS : Hid (wys h (lead (j + 1)) = wys h (lead j) ++ path h j) := by
        show wys h (lead (j + 1)) = wys h (lead j) ++ path h j
        rw [wys_lead, H15V.out j hjV]
      have hwl := wys_length h (lead j)
      rw [hll] at hwl
      obtain ⟨S, hS⟩ : ∃ S, wys h (lead j) = S := ⟨_, rfl⟩
      obtain ⟨A, hA⟩ : ∃ A, lead j = A := ⟨_, rfl⟩
      rw [hS] at hC HWS hwl
      rw [hA] at hC HE hll
      have HP : Hid ((path h j).length = h + 1 ∧ ∀ k, k ≤ h → (path h j).getD k 0 = (bat h j k : Int)) := ⟨path_length h j, fun k hk => path_at h j k hk⟩
      have HPP := H15.out
      have HC : Hid (Cnt w2 g N h S (.slice xa j xc) A wr) := by rw [hll] at hC; exact hC
      have hAl : A.length ≤ 64 := by omega
      have HALL : Hid (A.length = j) := hll
      clear hS hA hC hll hCl
      go_wp2_with fail
      refine (H13.out _).mono ?_
      rintro e w4 ⟨rfl, rfl⟩
      go_wp2_with fail
      refine (HPP w4 j hjV).mono ?_
      rintro e w5 ⟨vp, rfl, N5⟩
      obtain ⟨xp, cp, rfl⟩ := N5.shape
      rw [HP.out.1] at N5 ⊢
      have C5 := HC.out.chg N5.2
      have hgl := (HC.out.row.1.lt g rfl).2
      have hol : ∀ x, (Value.slice xa j xc).ownBlock = some x → x < w4.heap.size := fun x hx => (HC.out.all.lt x hx).2
      have LP5 := N5.lies
      obtain ⟨P, hP⟩ : ∃ P, path h j = P := ⟨_, rfl⟩
      rw [hP] at LP5 HP HWS
      have HLP5 : Hid (Lies (fun k => w4.heap.size ≤ k ∧ k < w5.heap.size) w5 (.slice xp (h + 1) cp) (P.map (Value.int .i64))) := LP5
      have HC5 : Hid (Cnt w2 g N h S (.slice xa j xc) A w5) := C5
      have HOL : Hid (∀ x, (Value.slice xa j xc).ownBlock = some x → x < w4.heap.size) := hol
      have HL2 : Hid (Lies (fun _ => True) (w5.alloc (.cells #[.int .i64 (j : Int)] 3)) (.slice (some ⟨w5.heap.size, 0, none⟩) 1 1) ([(j : Int)].map (Value.int .i64))) := (lies_block (zs := [.int .i64 (j : Int)]) (heap_alloc_new w5 _) 1).mono (fun _ _ => trivial)
      clear C5 hol LP5 hP N5 HC HPP
      go_wp2_with (at_builtin; refine wpList_append_grew rfl _ _ 27 rfl 3 i0 (.int .i64 0) 8 Try.underlying27 hi hz0 hz1 hz2 rfl (.slice xa j xc) A.length (A.map (Value.int .i64)) rfl (owns_base (HC5.out.chg ((Chg.refl no w5).alloc _)).all (Nat.zero_le _)) (fun _ => True) (.slice (some ⟨w5.heap.size, 0, none⟩) 1 1) ([(j : Int)].map (Value.int .i64)) rfl HL2.out (ints_oneCell _ _) (by simp; unfold maxLen; omega) (by simp; omega) ?_; intro v6 w6 G6)
      have C6 := (HC5.out.chg ((Chg.refl no w5).alloc _)).grew G6 HE.out
      have LP6 : Lies (fun k => k ≠ g) w6 (.slice xp (h + 1) cp) (P.map (Value.int .i64)) := by
        have k6 : Chg (fun x => (Value.slice xa j xc).ownBlock = some x) _ w6 := (Chg.refl _ _).grown G6.grown (fun x hx => .inl hx)
        refine ((HLP5.out.chg ((Chg.refl no w5).alloc _) (fun _ _ h => h)).chg k6 (fun x hx e => ?_)).mono (fun x hx e => ?_)
        · have := HOL.out x e
          omega
        · omega
      have HCI : Hid (Cnt w2 g N h (S ++ P.take 0) v6 (lead (j + 1)) w6 ∧ Lies (fun k => k ≠ g) w6 (.slice xp (h + 1) cp) (P.map (Value.int .i64))) := by rw [List.take_zero, List.append_nil]; exact ⟨C6, LP6⟩
      clear G6 C6 LP6 HLP5 HOL HL2 HC5 hgl
      go_wp2_with fail
      go_loopw [7] (fun i wr => ∃ k : Nat, k ≤ h + 1 ∧ i = .int .i64 (k : Int) ∧ Cnt w2 g N h (S ++ P.take k) v6 (lead (j + 1)) wr ∧ Lies (fun k => k ≠ g) wr (.slice xp (h + 1) cp) (P.map (Value.int .i64))) (fun i _ => h + 1 - (intOf i).toNat)
      case atStart => exact ⟨0, by omega, rfl, HCI.out⟩
      case round =>
        clear HCI
        obtain ⟨k, hk, rfl, hC, hL⟩ := hrel
        by_cases hkh : k < h + 1
        · have hki : (k : Int) < (h : Int) + 1 := by omega
          have hbN := HBA.out j k hjV (by omega)
          obtain ⟨y, rfl, c1⟩ := lies_at hL k (by rw [HP.out.1]; exact hkh)
          rw [HP.out.2 k (by omega)] at c1
          obtain ⟨gg, hg1, hgb, c2, f2⟩ := owns_at (k := bat h j k) (by have := hC.row.1; rw [HTL.out] at this; exact this) (by rw [List.getElem?_map, HTG.out _ _ hbN]; rfl)
          cases hg1
          have hcl := List.count_le_length (a := ((bat h j k : Nat) : Int)) (l := S ++ P.take k)
          rw [List.length_append, List.length_take, HP.out.1] at hcl
          have hCA := HAD.out _ _ _ _ _ _ _ _ hC hbN
          have hTS : S ++ P.take k ++ [((bat h j k : Nat) : Int)] = S ++ P.take (k + 1) := by
            rw [take_snoc P k (by rw [HP.out.1]; exact hkh), ← List.append_assoc, HP.out.2 k (by omega)]
          rw [hTS] at hCA
          have hLA : Lies (fun k => k ≠ g) (wr.setCell ⟨g, bat h j k, none⟩ (.int .i64 (((S ++ P.take k).count ((bat h j k : Nat) : Int) : Int) + 1))) (.slice (some y) (h + 1) cp) (P.map (Value.int .i64)) :=
            hL.chg ((Chg.refl (fun x => x = g) wr).setCell _ _ (.inl rfl)) (fun x hx e => hx e)
          obtain ⟨C, hCC⟩ : ∃ C : Nat, (S ++ P.take k).count ((bat h j k : Nat) : Int) = C := ⟨_, rfl⟩
          obtain ⟨U, hU⟩ : ∃ U : Nat, bat h j k = U := ⟨_, rfl⟩
          rw [hCC] at c2 hcl hCA hLA
          rw [hU] at c1 c2 f2 hbN hCA hLA
          have hci : (C : Int) ≤ 1000 := by omega
          have hbi : (U : Int) < N := by omega
          have HX : Hid (Cnt w2 g N h (S ++ P.take (k + 1)) v6 (lead (j + 1)) (wr.setCell ⟨g, U, none⟩ (.int .i64 ((C : Int) + 1))) ∧ Lies (fun k => k ≠ g) (wr.setCell ⟨g, U, none⟩ (.int .i64 ((C : Int) + 1))) (.slice (some y) (h + 1) cp) (P.map (Value.int .i64))) := ⟨hCA, hLA⟩
          clear hC hL hCA hLA hTS hCC hU hcl
          go_wp2
          go_roundw
          case rel => exact ⟨k + 1, by omega, by go_num, HX.out⟩
          case measure => simp [intOf]; omega
        · obtain rfl : k = h + 1 := by omega
          rw [List.take_of_length_le (by rw [HP.out.1]; omega), ← HWS.out] at hC
          have HX : Hid (Cnt w2 g N h (wys h (lead (j + 1))) v6 (lead (j + 1)) wr) := hC
          clear hC hL
          go_wp2
          go_roundw
          case rel => exact ⟨j + 1, by omega, by go_num, HX.out⟩
          case measure => simp [intOf]; omega
    · obtain rfl : j = V := by omega
      have hji : (j : Int) ≤ (j : Int) := by omega
      have HC : Hid (Cnt w2 g N h (wys h (lead j)) (.slice xa (lead j).length xc) (lead j) wr) := hC
      rw [lead_length] at HC ⊢
      clear hC
      go_wp2_with fail
      refine (H13.out _).mono ?_
      rintro e w4 ⟨rfl, rfl⟩
      go_wp2_with fail
      obtain ⟨w5, hw5⟩ : ∃ w5, w4 = w5 := ⟨_, rfl⟩
      rw [hw5] at HC ⊢
      clear hw5
      go_loopw [8] (fun i wr => ∃ b : Nat, b ≤ N ∧ i = .int .i64 (b : Int) ∧ wr = w5) (fun i _ => N - (intOf i).toNat)
      case atStart => exact ⟨0, by omega, rfl, rfl⟩
      case round =>
        obtain ⟨b, hb, rfl, rfl⟩ := hrel
        by_cases hbN : b < N
        · have hbi : (b : Int) < N := by omega
          obtain ⟨gg, hg1, hgb, c2, f2⟩ := owns_at (k := b) (by have := HC.out.row.1; rw [HTL.out] at this; exact this) (by rw [List.getElem?_map, HTG.out _ _ hbN]; rfl)
          cases hg1
          obtain ⟨q1, q2⟩ := HCF.out b hbN
          have HL := H17.out wr b (by omega)
          obtain ⟨L, hL⟩ : ∃ L, lvl b = L := ⟨_, rfl⟩
          rw [hL] at HL q1 q2
          rw [q1] at c2
          obtain ⟨Q, hQ⟩ : ∃ Q : Int, (2 : Int) ^ (h - L) = Q := ⟨_, rfl⟩
          have hq := pow_le6 (h - L) (by omega)
          have hq2 : ((2 ^ (h - L) : Nat) : Int) = Q := by rw [← hQ]; exact pow_cast _
          have hq3 : 1 ≤ Q := by omega
          have hq4 : Q ≤ 64 := by omega
          have hw : wrap64 Q = Q := by unfold wrap64; omega
          have hn : ((h : Int) - (L : Int)).toNat = h - L := by omega
          have q2i : (L : Int) ≤ h := by omega
          simp only [hQ] at c2
          clear hL q1 hq hq2
          go_wp2_with fail
          refine HL.mono ?_
          rintro e w6 ⟨rfl, rfl⟩
          go_wp2
          go_roundw
          case rel => exact ⟨b + 1, by omega, by go_num, by first | rfl | trivial⟩
          case measure => simp [intOf]; omega
        · obtain rfl : b = N := by omega
          have hbi : (b : Int) ≤ (b : Int) := by omega
          have hmr : (2 * (j : Int) - 1) = b := HMR.out.symm
          have HC2 : Hid (∀ w', Chg no wr w' → Lies (fun _ => True) w' (.slice xa j xc) ((lead j).map (Value.int .i64))) := by
            intro w' k
            have := ((Lies.of_owns HC.out.all (J := fun _ => True) (fun _ _ => trivial))).chg k (fun _ _ h => h)
            exact this
          have HK5 : Hid (Chg no w wr) := HK.out.then HC.out.row.2
          clear HC
          go_wp2_with fail
          refine (first_any _).mono ?_
          rintro e w6 ⟨rfl, k6⟩
          have HU6 := HU.out _ _ _ (HC2.out _ k6)
          go_wp2_with fail
          refine HU6.mono ?_
          rintro e w7 ⟨v7, rfl, N7⟩
          obtain ⟨x7, c7, rfl⟩ := N7.shape
          have K7 := (HK5.out.then k6).then N7.2
          rw [HUF.out]
          clear HU6 N7 k6
          go_wp2_with fail
          refine (H13.out _).mono ?_
          rintro e w8 ⟨rfl, rfl⟩
          go_wp2
          go_ret
          exact ⟨rfl, K7.below⟩

theorem walk (w : World) (a0 : Int) (w0 : (Lit.int .i64 a0).wf = true) :
    Calls Try.prog 7 #[.int .i64 a0] w fun e w' => e = .returned (.bool true) ∧ Below w.heap.size w w' := by
  cases hk : okH a0
  · exact early w a0 hk
  · have h0 := (okH_iff a0).1 hk
    obtain ⟨H, rfl⟩ : ∃ H : Nat, a0 = H := ⟨a0.toNat, by omega⟩
    exact late w H (by omega)

theorem own : ownKnob Try.prog.godebug = none := by kernel_rfl
theorem laidOut : laidOutB Try.prog = true := by kernel_rfl

set_option maxRecDepth 100000 in
theorem lifted (os : Os) (started : os.Started) (H : Type) (enc : TypeId × Value → H) :
    ReturnsInHanded {} Try.checked os 7 .any (Rows.treeCountsSpec.pre6 enc Try.prog Try.f7 Rows.treeCountsRow.domain false) (Rows.treeCountsSpec.post enc Try.prog Try.f7 false true false false) := by
  refine returnsInHanded_of_change (C := Try.checked) own started (by kernel_rfl) Try.func7
    (ChangeSpec.witness6 (enc := enc) (C := Try.checked) false ⟨#[], #[.int .i64 0], []⟩ 8 (by kernel_rfl) (by kernel_rfl) (by kernel_rfl) (by kernel_rfl)) ?_
  intro W base args ds gs before hval0 hW hcnd _
  have hval : ∀ (j : Nat) t v, Try.f7.params[j]? = some t → args[j]? = some v → Value.okWide Try.prog W .any base t v := hval0
  have hW' := hW
  obtain ⟨p, q, hA0, hV, rfl, hfz, hnd⟩ := hW
  have hA : DataW.TrodAll enc Try.prog W 0 (fun _ => true) true Try.f7.params.toList args.toList ds p := hA0
  rw [Try.params7] at hA hval
  obtain ⟨v0, vs0, d0, ds0, p0, q0, hargs, rfl, rfl, h0, r0⟩ := trodAll_cons hA
  obtain ⟨rfl, rfl, rfl⟩ := trodAll_nil r0
  obtain rfl : args = #[v0] := by cases args; simp_all
  obtain ⟨rfl, rfl⟩ := trodVars_none hV
  obtain ⟨a0, rfl, rfl, rfl, w0⟩ := open_int Try.underlying3 (hval 0 3 v0 rfl rfl) h0
  clear hA0 hval0
  refine (walk W a0 w0).mono fun e W' ⟨he, bel⟩ => ?_
  subst he
  exact ⟨_, rfl, _, _, _, [], _, [], hW', trodAll_mk1 (shut_bool Try.underlying4 _), (trodAll_cons_mk (shut_int Try.underlying3 w0) trodAll_mk0), rfl, bel.frame _, fun h => by cases h⟩

theorem over : Rows.treeCountsRow.holds Try.pinned (OpenSpec.ofChange Rows.treeCountsSpec) :=
  OpenClaim.holds_of_wide 7 Try.f7 rfl rfl rfl rfl rfl rfl rfl ⟨rfl, rfl, rfl, rfl, rfl⟩ rfl rfl rfl rfl rfl (by kernel_rfl) Try.func7 (by kernel_rfl)
    (of_decide_eq_true (by kernel_rfl)) (by unfold Func.isWrapper; first | (rw [if_pos (by decide +kernel)]; kernel_rfl) | (rw [if_neg (by decide +kernel)]; exact ⟨rfl, rfl⟩))
    (fun os started H enc _ => lifted os started H enc)

theorem proved : Rows.TreeCountsSaid := over
end Go.Proofs.Ytgdhbkhhholkgaa.treeCounts
namespace Go.Proofs.Ytgdhbkhhholkgaa
theorem treeCounts_holds : Rows.TreeCountsSaid := treeCounts.proved
#print axioms treeCounts_holds
end Go.Proofs.Ytgdhbkhhholkgaa
