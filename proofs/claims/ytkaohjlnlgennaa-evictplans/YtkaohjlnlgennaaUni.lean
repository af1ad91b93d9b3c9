/- Contracts of Union and of the document's Union. -/
import Derived.Test.YtkaohjlnlgennaaRsh
import Derived.Test.YtkaohjlnlgennaaUnm
namespace Go.Proofs.Ytkaohjlnlgennaa.st
open Go.ChangeShapes Go.WideShapes Go.ChangeAt Go.RowKit Go.Proofs.Ytkaohjlnlgennaa.hp Go.Proofs.Ytkaohjlnlgennaa.tm
set_option linter.unusedVariables false

/-- Bools in new memory. -/
def Mk (w : World) (bs : List Bool) (v : Value) (w' : World) : Prop := w'.ownsRow w.heap.size 4 1 v bs.length (bs.map Value.bool) ∧ Chg no w w'

theorem Mk.chg {w w1 w2 : World} {bs : List Bool} {v : Value} (h : Mk w bs v w1) (k : Chg no w1 w2) : Mk w bs v w2 := ⟨k.owns h.1 (fun _ _ h => h), h.2.then k⟩
theorem Mk.drewN {w w1 : World} {bs : List Bool} {v : Value} (h : Mk w bs v w1) (n : Nat) : Mk w bs v (w1.drewN n) := h.chg ((Chg.refl no w1).drewN n)
theorem Mk.shape {w w' : World} {bs : List Bool} {v : Value} (h : Mk w bs v w') : ∃ a c, v = .slice a bs.length c := owns_shape h.1

theorem Mk.set {w w' : World} {g n c k : Nat} {bs : List Bool} (h : Mk w bs (.slice (some ⟨g, 0, none⟩) n c) w') (u : Bool) : Mk w (bs.set k u) (.slice (some ⟨g, 0, none⟩) n c) (w'.setCell ⟨g, k, none⟩ (.bool u)) := by
  have hn : n = bs.length := by
    obtain ⟨a, c', hv⟩ := h.shape
    cases hv
    rfl
  subst hn
  have := h.1.stored k (.bool u)
  refine ⟨?_, h.2.setCell _ _ (.inr (h.1.lt g rfl).1)⟩
  rw [List.length_set, List.map_set]
  exact this.1

theorem New.none {w w' : World} (k : Chg no w w') : New w [] (.slice none 0 0) w' := ⟨World.ownsRow_nil _ _ _ _, k⟩

theorem New.from {w w1 w2 : World} {zs : List Int} {v : Value} (h : New w1 zs v w2) (k : Chg no w w1) : New w zs v w2 := ⟨owns_base h.1 k.size, k.then h.2⟩

theorem all_take {p : Int → Bool} {ls : List Int} {j : Nat} (hj : j < ls.length) (h1 : (ls.take j).all p = true) (h2 : p (ls.getD j 0) = true) : (ls.take (j + 1)).all p = true := by
  rw [take_snoc ls j hj, List.all_append, h1]
  simpa using h2

theorem not_all {p : Int → Bool} {ls : List Int} {j : Nat} (hj : j < ls.length) (h2 : p (ls.getD j 0) = false) : ls.all p = false := by
  rw [Bool.eq_false_iff]
  intro h
  have hm : ls.getD j 0 ∈ ls := by
    rw [List.getD_eq_getElem?_getD, List.getElem?_eq_getElem hj]
    exact List.getElem_mem hj
  have := List.all_eq_true.1 h _ hm
  rw [h2] at this
  cases this

theorem uni_no {h : Int} {ls : List Int} (hk : ls.all (okL h) = false) : uni h ls = [] := by
  unfold uni
  rw [if_neg (by rw [hk]; decide)]

theorem uni_yes {h : Int} {ls : List Int} (hk : ls.all (okL h) = true) : uni h ls = rise (wys h ls) (bks h).toNat := by
  unfold uni
  rw [if_pos hk]

theorem okL_badH {h l : Int} (hk : okH h = false) : okL h l = false := by
  cases hl : okL h l
  · rfl
  · rw [okL_okH hl] at hk
    cases hk

theorem bks_badH {h : Int} (hk : okH h = false) : bks h = 0 := by
  unfold bks
  rw [hk]
  rfl

set_option maxHeartbeats 2000000 in
theorem union_bad {J : Nat → Prop} (w : World) (h : Int) (hk : okH h = false) (v : Value) (ls : List Int) (hv : Lies J w v (ls.map (Value.int .i64))) (hl : ls.length ≤ 100000) :
    Calls Try.prog 20 #[.int .i64 h, v] w fun e w' => ∃ v', e = .returned v' ∧ New w (uni h ls) v' w' := by
  obtain ⟨i0, hi, hz0, hz1, hz2⟩ := info_parts info4
  have HU : Hid (uni h ls = []) := by
    show uni h ls = []
    cases ha : ls.all (okL h)
    · exact uni_no ha
    · rw [uni_yes ha, bks_badH hk]
      rfl
  rw [HU.out]
  have HB := buckets_any w h
  rw [bks_badH hk] at HB
  have HI : Hid (∀ (w : World) (l : Int), Calls Try.prog 41 #[.int .i64 h, .int .i64 l] w fun e w' => e = .returned (.bool false) ∧ w' = w) := by
    intro w l
    have := isLeaf_any w h l
    rw [okL_badH hk] at this
    exact this
  obtain ⟨a, c, rfl, _⟩ := hv.slice
  simp only [List.length_map] at hv ⊢
  have HV : Hid (Lies J w (.slice a ls.length c) (ls.map (Value.int .i64))) := hv
  have hli : (ls.length : Int) ≤ 100000 := by omega
  clear hk hv
  go_enter Try.func20, Try.ntmps20
  go_wp2_with fail
  refine HB.mono ?_
  rintro e w1 ⟨rfl, rfl⟩
  clear HB
  go_wp2_with (at_make; refine wpList_make_full _ rfl _ _ 66 rfl w1.heap.size 4 i0 (.bool false) 1 Try.underlying66 hi hz0 hz1 .i64 .i64 0 0 0 rfl rfl rfl rfl ?c1 ?c2 ?c3 ?_)
  case c1 => rw [hz2]; omega
  case c2 => unfold maxLen; omega
  case c3 => omega
  intro w2 hown hg
  have K2 : Chg no w1 w2 := (Chg.refl no w1).grown hg (by simp)
  have HV2 : Hid (Lies J w2 (.slice a ls.length c) (ls.map (Value.int .i64))) := HV.out.chg K2 (fun _ _ h => h)
  clear hown hg HV
  go_wp2_with fail
  go_loopw [17] (fun i wr => i = .int .i64 0 ∧ wr = w2) (fun i _ => 0)
  case atStart => exact ⟨rfl, rfl⟩
  case round =>
    obtain ⟨rfl, rfl⟩ := hrel
    by_cases h0 : 0 < ls.length
    · have h0i : (0 : Int) < ls.length := by omega
      obtain ⟨x, rfl, c1⟩ := lies_at HV2.out 0 h0
      have c1' : wr.cell? x = some (.int .i64 (ls.getD 0 0)) := by
        have e : x.add 0 = x := by simp [Addr.add]
        rw [e] at c1
        exact c1
      obtain ⟨U, hU⟩ : ∃ U : Int, ls.getD 0 0 = U := ⟨_, rfl⟩
      rw [hU] at c1 c1'
      clear hU
      go_wp2_with fail
      refine (HI.out wr U).mono ?_
      rintro e w3 ⟨rfl, rfl⟩
      go_wp2
      go_ret
      exact ⟨_, rfl, New.none K2⟩
    · have h0i : (ls.length : Int) = 0 := by omega
      obtain rfl : ls = [] := List.eq_nil_of_length_eq_zero (by omega)
      simp only [List.length_nil]
      go_wp2_with fail
      go_loopw [9, 40] (fun vb i wq => vb = .slice none 0 0 ∧ i = .int .i64 0 ∧ wq = wr) (fun _ i _ => 0)
      case atStart => exact ⟨rfl, rfl, rfl⟩
      case round =>
        obtain ⟨rfl, rfl, rfl⟩ := hrel
        go_wp2
        go_ret
        exact ⟨_, rfl, New.none K2⟩

theorem wys_all (h : Nat) (h1 : h ≤ 6) (ls : List Int) (hk : ls.all (okL h) = true) {b : Int} (hb : b ∈ wys h ls) : 0 ≤ b ∧ b < ((2 * 2 ^ h - 1 : Nat) : Int) := by
  unfold wys at hb
  obtain ⟨l, hl, hbl⟩ := List.mem_flatMap.1 hb
  have ho := List.all_eq_true.1 hk l hl
  obtain ⟨H, L, e, rfl, h2, h3, _⟩ := okL_nat ho
  obtain rfl : h = H := by omega
  rw [pathI_of h1 h3] at hbl
  have := path_lt h1 h3 hbl
  rw [bks_of h1] at this
  exact this

set_option maxHeartbeats 4000000 in
set_option maxRecDepth 100000 in
theorem union_good {J : Nat → Prop} (w : World) (h : Nat) (h1 : h ≤ 6) (v : Value) (ls : List Int) (hv : Lies J w v (ls.map (Value.int .i64))) (hl : ls.length ≤ 100000) :
    Calls Try.prog 20 #[.int .i64 h, v] w fun e w' => ∃ v', e = .returned v' ∧ New w (uni h ls) v' w' := by
  obtain ⟨i0, hi, hz0, hz1, hz2⟩ := info_parts info4
  obtain ⟨j0, hj, hy0, hy1, hy2⟩ := info_parts info3
  have hp := pow_le6 h h1
  have HB := buckets_any w h
  rw [bks_of h1] at HB
  obtain ⟨N, hN⟩ : ∃ N, 2 * 2 ^ h - 1 = N := ⟨_, rfl⟩
  have HUY : Hid (ls.all (okL h) = true → uni h ls = rise (wys h ls) N) := by
    intro e
    rw [uni_yes e, bks_of h1, hN, Int.toNat_natCast]
  have HUN : Hid (∀ j, j < ls.length → okL h (ls.getD j 0) = false → uni h ls = []) := fun j hj e => uni_no (not_all hj e)
  have HIS : Hid (∀ (w : World) (l : Int), Calls Try.prog 41 #[.int .i64 h, .int .i64 l] w fun e w' => e = .returned (.bool (okL h l)) ∧ w' = w) := fun w l => isLeaf_any w h l
  have HBU : Hid (∀ (w : World) (l k : Nat), l < 2 ^ h → k ≤ h → Calls Try.prog 42 #[.int .i64 h, .int .i64 l, .int .i64 k] w fun e w' => e = .returned (.int .i64 (bat h l k)) ∧ ∃ n, w' = w.drewN n) := fun w l k hl hk => bucketAt_any w h l k h1 hl hk
  have HBA : Hid (∀ (l k : Nat), l < 2 ^ h → k ≤ h → bat h l k < N) := by
    intro l k hl hk
    rw [← hN]
    exact (bat_facts h1 hl hk).2.1
  have HML : Hid (∀ S, (mrk h S).length = N) := fun S => by rw [mrk_length, hN]
  have HMG : Hid (∀ S b, b < N → (mrk h S)[b]? = some (S.contains (b : Int))) := fun S b hb => mrk_get h S b (by omega)
  have HMA : Hid (∀ S b, b < N → (mrk h S).set b true = mrk h (S ++ [(b : Int)])) := fun S b hb => mrk_add h S b (by omega)
  have HM0 : Hid (mrk h [] = List.replicate N false) := by
    show mrk h [] = List.replicate N false
    rw [mrk_nil, hN]
  rw [hN] at HB
  have n1 : N ≤ 127 := by omega
  have n1i : (N : Int) ≤ 127 := by omega
  have i1 : (h : Int) ≤ 6 := by omega
  obtain ⟨a, c, rfl, _⟩ := hv.slice
  simp only [List.length_map] at hv ⊢
  have hli : (ls.length : Int) ≤ 100000 := by omega
  have HV : Hid (∀ w', Chg no w w' → Lies J w' (.slice a ls.length c) (ls.map (Value.int .i64))) := fun w' k => hv.chg k (fun _ _ h => h)
  clear hv hp hN
  go_enter Try.func20, Try.ntmps20
  go_wp2_with fail
  refine HB.mono ?_
  rintro e w1 ⟨rfl, rfl⟩
  clear HB
  go_wp2_with (at_make; refine wpList_make_full _ rfl _ _ 66 rfl w1.heap.size 4 i0 (.bool false) 1 Try.underlying66 hi hz0 hz1 .i64 .i64 N N N rfl rfl rfl rfl ?c1 ?c2 ?c3 ?_)
  case c1 => rw [hz2]; omega
  case c2 => unfold maxLen; omega
  case c3 => omega
  intro w2 hown hg
  have HN0 : Hid (Mk w1 (mrk h (wys h (ls.take 0))) (.slice (some ⟨w1.heap.size, 0, none⟩) N N) w2) := by
    refine ⟨?_, (Chg.refl no w1).grown hg (by simp)⟩
    rw [HML.out]
    show w2.ownsRow w1.heap.size 4 1 (.slice (some ⟨w1.heap.size, 0, none⟩) N N) N ((mrk h []).map Value.bool)
    rw [HM0.out, List.map_replicate]
    rw [toList_madeCells_one] at hown
    exact hown
  obtain ⟨g, hgg⟩ : ∃ g, w1.heap.size = g := ⟨_, rfl⟩
  rw [hgg] at HN0 ⊢
  clear hown hg
  go_wp2_with fail
  go_loopw [17] (fun i wr => ∃ j : Nat, j ≤ ls.length ∧ i = .int .i64 (j : Int) ∧ (ls.take j).all (okL h) = true ∧ Mk w1 (mrk h (wys h (ls.take j))) (.slice (some ⟨g, 0, none⟩) N N) wr) (fun i _ => ls.length - (intOf i).toNat)
  case atStart => exact ⟨0, by omega, rfl, rfl, HN0.out⟩
  case round =>
    clear HN0
    obtain ⟨j, hjl, rfl, hall, hM⟩ := hrel
    by_cases hjn : j < ls.length
    · have hji : (j : Int) < ls.length := by omega
      obtain ⟨x, rfl, c1⟩ := lies_at (HV.out wr hM.2) j hjn
      have HAL : Hid (okL h (ls.getD j 0) = true → (ls.take (j + 1)).all (okL h) = true) := fun e => all_take hjn hall e
      have HWS : Hid (wys h (ls.take (j + 1)) = wys h (ls.take j) ++ pathI h (ls.getD j 0)) := wys_snoc h ls j hjn
      have HNO := HUN.out j hjn
      obtain ⟨U, hU⟩ : ∃ U : Int, ls.getD j 0 = U := ⟨_, rfl⟩
      rw [hU] at c1 HAL HWS HNO
      obtain ⟨S, hS⟩ : ∃ S, wys h (ls.take j) = S := ⟨_, rfl⟩
      rw [hS] at hM HWS
      have HIU := HIS.out wr U
      have HM : Hid (Mk w1 (mrk h S) (.slice (some ⟨g, 0, none⟩) N N) wr) := hM
      clear hU hS hall hM
      cases kU : okL h U
      · rw [kU] at HIU
        have HUE : Hid (uni h ls = []) := HNO kU
        clear HNO kU HAL
        go_wp2_with fail
        refine HIU.mono ?_
        rintro e w3 ⟨rfl, rfl⟩
        go_wp2
        go_ret
        refine ⟨_, rfl, ?_⟩
        rw [HUE.out]
        exact New.none HM.out.2
      · rw [kU] at HIU
        have HA2 := HAL.out kU
        obtain ⟨H', L, e1, rfl, _, hL, _⟩ := okL_nat kU
        obtain rfl : h = H' := by omega
        rw [pathI_of h1 hL] at HWS
        have HT : Hid ((path h L).length = h + 1 ∧ ∀ k, k ≤ h → (path h L).getD k 0 = (bat h L k : Int)) := ⟨path_length h L, fun k hk => path_at h L k hk⟩
        obtain ⟨T, hT⟩ : ∃ T, path h L = T := ⟨_, rfl⟩
        rw [hT] at HWS HT
        have HM2 : Hid (Mk w1 (mrk h (S ++ T.take 0)) (.slice (some ⟨g, 0, none⟩) N N) wr) := by rw [List.take_zero, List.append_nil]; exact HM.out
        have HA3 : Hid ((ls.take (j + 1)).all (okL h) = true) := HA2
        have HL : Hid (L < 2 ^ h) := hL
        clear HNO kU HAL e1 hT HM HA2 hL
        go_wp2_with fail
        refine HIU.mono ?_
        rintro e w3 ⟨rfl, rfl⟩
        clear HIU
        go_wp2_with fail
        rename World => w3
        go_loopw [27] (fun i wr => ∃ k : Nat, k ≤ h + 1 ∧ i = .int .i64 (k : Int) ∧ Mk w1 (mrk h (S ++ T.take k)) (.slice (some ⟨g, 0, none⟩) N N) wr) (fun i _ => h + 1 - (intOf i).toNat)
        case atStart => exact ⟨0, by omega, rfl, HM2.out⟩
        case round =>
          clear HM2
          obtain ⟨k, hk, rfl, hM⟩ := hrel
          by_cases hkh : k < h + 1
          · have hki : (k : Int) < (h : Int) + 1 := by omega
            have hbN := HBA.out L k HL.out (by omega)
            go_wp2_with fail
            refine (HBU.out wr L k HL.out (by omega)).mono ?_
            rintro e w4 ⟨rfl, n, rfl⟩
            have hM2 := hM.drewN n
            obtain ⟨gg, hg1, hgb, c2, f2⟩ := owns_at (k := bat h L k) (by have := hM2.1; rw [HML.out] at this; exact this) (by rw [List.getElem?_map, HMG.out _ _ hbN]; rfl)
            cases hg1
            have hM3 : Mk w1 (mrk h (S ++ T.take (k + 1))) (.slice (some ⟨g, 0, none⟩) N N) ((wr.drewN n).setCell ⟨g, bat h L k, none⟩ (.bool true)) := by
              rw [take_snoc T k (by rw [HT.out.1]; exact hkh), ← List.append_assoc, HT.out.2 k (by omega), ← HMA.out _ _ hbN]
              exact hM2.set true
            obtain ⟨U, hU⟩ : ∃ U : Nat, bat h L k = U := ⟨_, rfl⟩
            obtain ⟨B, hB⟩ : ∃ B : Bool, (S ++ T.take k).contains ((bat h L k : Nat) : Int) = B := ⟨_, rfl⟩
            rw [hB] at c2
            rw [hU] at hM3 hbN c2 f2 ⊢
            have hbi : (U : Int) < N := by omega
            have HX : Hid (Mk w1 (mrk h (S ++ T.take (k + 1))) (.slice (some ⟨g, 0, none⟩) N N) ((wr.drewN n).setCell ⟨g, U, none⟩ (.bool true))) := hM3
            clear hM hM2 hM3 hU hB
            go_wp2
            go_roundw
            case rel => exact ⟨k + 1, by omega, by go_num, HX.out⟩
            case measure => simp [intOf]; omega
          · obtain rfl : k = h + 1 := by omega
            rw [List.take_of_length_le (by rw [HT.out.1]; omega), ← HWS.out] at hM
            go_wp2
            go_roundw
            case rel => exact ⟨j + 1, by omega, by go_num, HA3.out, hM⟩
            case measure => simp [intOf]; omega
    · obtain rfl : j = ls.length := by omega
      have hji : (ls.length : Int) ≤ (ls.length : Int) := by omega
      rw [List.take_length] at hall hM
      have HUE := HUY.out hall
      obtain ⟨S, hS⟩ : ∃ S, wys h ls = S := ⟨_, rfl⟩
      rw [hS] at HUE hM
      have HUE2 : Hid (uni h ls = rise S N) := HUE
      have hglt := (hM.1.lt g rfl).2
      have HM : Hid (Mk w1 (mrk h S) (.slice (some ⟨g, 0, none⟩) N N) wr) := hM
      have HNN : Hid (New wr (rise S 0) (.slice none 0 0) wr) := New.nil wr
      clear hS hall hM HUE
      go_wp2_with fail
      obtain ⟨w5, hw5⟩ : ∃ w5, wr = w5 := ⟨_, rfl⟩
      rw [hw5] at HM HNN hglt ⊢
      clear hw5
      go_loopw [9, 40] (fun vb i wr => ∃ b : Nat, b ≤ N ∧ i = .int .i64 (b : Int) ∧ New w5 (rise S b) vb wr) (fun _ i _ => N - (intOf i).toNat)
      case atStart => exact ⟨0, by omega, rfl, HNN.out⟩
      case round =>
        clear HNN
        obtain ⟨b, hb, rfl, hN⟩ := hrel
        obtain ⟨xa, xc, rfl⟩ := hN.shape
        by_cases hbn : b < N
        · have hbi : (b : Int) < N := by omega
          have hM2 := HM.out.chg hN.2
          obtain ⟨gg, hg1, hgb, c2, f2⟩ := owns_at (k := b) (by have := hM2.1; rw [HML.out] at this; exact this) (by rw [List.getElem?_map, HMG.out _ _ hbn]; rfl)
          cases hg1
          have HR : Hid (rise S (b + 1) = if S.contains (b : Int) = true then rise S b ++ [(b : Int)] else rise S b) := rise_succ S b
          have hrl := rise_length S b
          obtain ⟨R, hR⟩ : ∃ R, rise S b = R := ⟨_, rfl⟩
          rw [hR] at HR hN hrl ⊢
          cases hB : S.contains (b : Int)
          · rw [hB] at c2 HR
            have HN2 : Hid (New w5 (rise S (b + 1)) (.slice xa R.length xc) wr) := by rw [HR.out]; exact hN
            clear hB hR hN hM2 HR
            go_wp2
            go_roundw
            case rel => exact ⟨b + 1, by omega, by go_num, HN2.out⟩
            case measure => simp [intOf]; omega
          · rw [hB] at c2 HR
            have HE : Hid (R ++ [(b : Int)] = rise S (b + 1)) := by rw [HR.out]; rfl
            have HN2 : Hid (New w5 R (.slice xa R.length xc) wr) := hN
            have HL2 : Hid (Lies (fun _ => True) (wr.alloc (.cells #[.int .i64 (b : Int)] 3)) (.slice (some ⟨wr.heap.size, 0, none⟩) 1 1) ([(b : Int)].map (Value.int .i64))) := (lies_block (zs := [.int .i64 (b : Int)]) (heap_alloc_new wr _) 1).mono (fun _ _ => trivial)
            clear hB hR hN hM2 HR
            go_wp2_with (at_builtin; refine wpList_append_grew rfl _ _ 22 rfl 3 j0 (.int .i64 0) 8 Try.underlying22 hj hy0 hy1 hy2 rfl (.slice xa R.length xc) R.length (R.map (Value.int .i64)) rfl (owns_base (HN2.out.chg ((Chg.refl no wr).alloc _)).1 (Nat.zero_le _)) (fun _ => True) (.slice (some ⟨wr.heap.size, 0, none⟩) 1 1) ([(b : Int)].map (Value.int .i64)) rfl HL2.out (ints_oneCell _ _) (by simp; unfold maxLen; omega) (by simp; omega) ?_; intro v6 w6 G6)
            have hN6 := (HN2.out.chg ((Chg.refl no wr).alloc _)).grew G6 HE.out
            obtain ⟨a6, c6, rfl⟩ := hN6.shape
            clear G6 HN2 HL2
            go_wp2
            go_roundw
            case rel => exact ⟨b + 1, by omega, by go_num, hN6⟩
            case measure => simp [intOf]; omega
        · obtain rfl : b = N := by omega
          have hbi : (b : Int) ≤ (b : Int) := by omega
          go_wp2
          go_ret
          refine ⟨_, rfl, ?_⟩
          rw [HUE2.out]
          exact hN.from HM.out.2

theorem union_any {J : Nat → Prop} (w : World) (h : Int) (v : Value) (ls : List Int) (hv : Lies J w v (ls.map (Value.int .i64))) (hl : ls.length ≤ 100000) :
    Calls Try.prog 20 #[.int .i64 h, v] w fun e w' => ∃ v', e = .returned v' ∧ New w (uni h ls) v' w' := by
  cases hk : okH h
  · exact union_bad w h hk v ls hv hl
  · have := (okH_iff h).1 hk
    obtain ⟨H, rfl⟩ : ∃ H : Nat, h = H := ⟨h.toNat, by omega⟩
    exact union_good w H (by omega) v ls hv hl

end Go.Proofs.Ytkaohjlnlgennaa.st
