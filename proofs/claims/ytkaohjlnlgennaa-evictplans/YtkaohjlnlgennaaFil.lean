/- The contract of fill: up to z of those whose path the bucket is on; the others stay in their memory. -/
import Derived.Test.YtkaohjlnlgennaaSft
import Derived.Test.YtkaohjlnlgennaaCln
namespace Go.Proofs.Ytkaohjlnlgennaa.st
open Go.ChangeShapes Go.WideShapes Go.ChangeAt Go.RowKit Go.Proofs.Ytkaohjlnlgennaa.hp Go.Proofs.Ytkaohjlnlgennaa.tm Go.Proofs.Ytkaohjlnlgennaa.ev
set_option linter.unusedVariables false
set_option linter.unusedSimpArgs false

/-- An id with its leaf. -/
def itm (lf : Int → Int) (x : Int) : Int × Int := (x, lf x)

/-- Ints in new memory; besides, the block g alone was written. -/
def NewG (g : Nat) (w : World) (zs : List Int) (v : Value) (w' : World) : Prop := w'.ownsRow w.heap.size 3 1 v zs.length (zs.map (Value.int .i64)) ∧ Chg (fun k => k = g) w w'

theorem NewG.nil (g : Nat) (w : World) : NewG g w [] (.slice none 0 0) w := ⟨World.ownsRow_nil _ _ _ _, Chg.refl _ _⟩

theorem NewG.shape {g : Nat} {w w' : World} {zs : List Int} {v : Value} (h : NewG g w zs v w') : ∃ a c, v = .slice a zs.length c := owns_shape h.1

theorem NewG.chg {g : Nat} {w w1 w2 : World} {zs : List Int} {v : Value} (h : NewG g w zs v w1) (hg : g < w.heap.size) (k : Chg (fun k => k = g) w1 w2) : NewG g w zs v w2 :=
  ⟨k.owns h.1 (fun b hb e => by have := (h.1.lt b hb).1; omega), h.2.then k⟩

theorem NewG.grew {g : Nat} {w w1 w2 : World} {v v' : Value} {zs ys ts : List Int} (h : NewG g w zs v w1) (G : Grew 3 w1 w2 v v' zs.length (zs.map (Value.int .i64)) (ys.map (Value.int .i64))) (ht : zs ++ ys = ts) : NewG g w ts v' w2 ∧ Chg (fun k => v.ownBlock = some k) w1 w2 := by
  subst ht
  have hz := h.2.size
  have ho := G.own
  rw [← List.map_append, List.length_map] at ho
  refine ⟨⟨⟨by simp, ?_⟩, h.2.grown G.grown (fun k hk => .inr (h.1.lt k hk).1)⟩, (Chg.refl _ w1).grown G.grown (fun k hk => .inl hk)⟩
  rcases ho.2 with hh | ⟨b, cap, cur, hv, hb, rest⟩
  · exact .inl (by simpa using hh)
  · refine .inr ⟨b, cap, cur, by simpa using hv, ?_, by simpa using rest⟩
    rcases G.place b (by rw [hv]; rfl) with hp | hp
    · exact (h.1.lt b hp).1
    · omega

theorem ints_oneCell' (xs : List Int) : ∀ u ∈ xs.map (Value.int .i64), u.oneCell' = true := ints_one xs

set_option maxHeartbeats 4000000 in
theorem fill_some (w : World) (h z b : Int) (g c n : Nat) (l : List Int) (lf : Int → Int) (hn : l.length = n) (hl : n ≤ 100000)
    (ho : w.ownsRow 0 35 2 (.slice (some ⟨g, 0, none⟩) n c) n ((l.map (itm lf)).flatMap f2)) :
    Calls Try.prog 30 #[.int .i64 h, .int .i64 z, .int .i64 b, .slice (some ⟨g, 0, none⟩) n c] w fun e w' => ∃ iv, e = .returned (.tuple #[iv, .slice (some ⟨g, 0, none⟩) (pick (fun x => onI h b (lf x)) z.toNat l).2.length c]) ∧
      NewG g w (pick (fun x => onI h b (lf x)) z.toNat l).1 iv w' ∧ w'.ownsRow 0 35 2 (.slice (some ⟨g, 0, none⟩) (pick (fun x => onI h b (lf x)) z.toNat l).2.length c) (pick (fun x => onI h b (lf x)) z.toNat l).2.length (((pick (fun x => onI h b (lf x)) z.toNat l).2.map (itm lf)).flatMap f2) := by
  obtain ⟨i0, hi, hz0, hz1, hz2⟩ := info_parts info3
  obtain ⟨j0, hj, hy0, hy1, hy2⟩ := info_parts info35
  obtain ⟨P, hP⟩ : ∃ P, pick (fun x => onI h b (lf x)) z.toNat = P := ⟨_, rfl⟩
  have HP : Hid (pick (fun x => onI h b (lf x)) z.toNat = P) := hP
  have HO : Hid (∀ (W : World) (x : Int), Calls Try.prog 23 #[.int .i64 h, .int .i64 b, .int .i64 x] W fun e w' => e = .returned (.bool (onI h b x)) ∧ ∃ q, w' = W.drewN q) := fun W x => on_any W h b x
  rw [hP]
  have hS := Sft.start ho (by simp [hn])
  have hglt := hS.lt
  have HS0 : Hid (Sft g c n 0 (l.map (itm lf)) (((P (l.take 0)).2).map (itm lf)) w) := by
    have e : P (l.take 0) = ([], []) := by rw [← hP]; cases z.toNat <;> rfl
    rw [e]
    exact hS
  have HN0 : Hid (NewG g w (P (l.take 0)).1 (.slice none 0 0) w) := by
    have e : P (l.take 0) = ([], []) := by rw [← hP]; cases z.toNat <;> rfl
    rw [e]
    exact NewG.nil g w
  have hR0 : (P (l.take 0)).2.length = 0 := by rw [← hP]; cases z.toNat <;> rfl
  have EN : Hid (l.length = n) := hn
  have hni : (n : Int) ≤ 100000 := by omega
  have HNC : Hid (n ≤ c ∧ c ≤ maxLen) := ⟨hS.nc, hS.cm⟩
  have hci : (c : Int) ≤ 9223372036854775807 := by have := hS.cm; unfold maxLen at this; omega
  have HZ : Hid (∀ m : Nat, m < z.toNat ↔ (m : Int) < z) := fun m => by omega
  clear ho hS hP hn
  go_enter Try.func30, Try.ntmps30
  go_wp2_with fail
  go_loopw [10, 11, 18] (fun iv ov i wr => ∃ k : Nat, k ≤ n ∧ i = .int .i64 (k : Int) ∧ NewG g w (P (l.take k)).1 iv wr ∧ ov = .slice (some ⟨g, 0, none⟩) (P (l.take k)).2.length c ∧ Sft g c n k (l.map (itm lf)) (((P (l.take k)).2).map (itm lf)) wr) (fun _ _ i _ => n - (intOf i).toNat)
  case atStart => exact ⟨0, by omega, rfl, HN0.out, by rw [hR0], HS0.out⟩
  case round =>
    clear HN0 HS0 hR0
    obtain ⟨k, hk, rfl, hN, rfl, hS⟩ := hrel
    obtain ⟨xa, xc, rfl⟩ := hN.shape
    by_cases hkn : k < n
    · have hki : (k : Int) < n := by omega
      obtain ⟨x, hx⟩ : ∃ x, l.getD k 0 = x := ⟨_, rfl⟩
      have hsn : P (l.take (k + 1)) = if (P (l.take k)).1.length < z.toNat ∧ onI h b (lf x) = true then ((P (l.take k)).1 ++ [x], (P (l.take k)).2) else ((P (l.take k)).1, (P (l.take k)).2 ++ [x]) := by
        rw [take_next l 0 k (by rw [EN.out]; exact hkn), hx, ← HP.out, pick_snoc]
      obtain ⟨c0, c1⟩ := hS.at hkn
      have hxx : (l.map (itm lf)).getD k (0, 0) = (x, lf x) := by
        rw [← hx, List.getD_eq_getElem?_getD, List.getElem?_map, List.getD_eq_getElem?_getD, List.getElem?_eq_getElem (by rw [EN.out]; exact hkn)]
        rfl
      rw [hxx] at c0 c1
      simp only at c0 c1
      obtain ⟨T, hT⟩ : ∃ T, (P (l.take k)).1 = T := ⟨_, rfl⟩
      obtain ⟨R, hR⟩ : ∃ R, (P (l.take k)).2 = R := ⟨_, rfl⟩
      rw [hT, hR] at hsn
      rw [hT] at hN
      rw [hR] at hS
      rw [hT, hR]
      have HS : Hid (Sft g c n k (l.map (itm lf)) (R.map (itm lf)) wr) := hS
      have HN : Hid (NewG g w T (.slice xa T.length xc) wr) := hN
      have HTk : Hid (T.length ≤ k) := by
        show _ ≤ _
        have := pick_len (p := fun x => onI h b (lf x)) (l.take k) z.toNat
        have h2 := pick_sum (p := fun x => onI h b (lf x)) (l.take k) z.toNat
        rw [HP.out, hT, hR] at h2
        have h3 := hS.ri
        simp only [List.length_take, EN.out] at h2
        omega
      have hri := hS.ri
      rw [List.length_map] at hri
      have hgr := hS.lt
      have hgne : g ≠ wr.heap.size := by omega
      have HC1 : Hid (P (l.take (k + 1)) = if T.length < z.toNat ∧ onI h b (lf x) = true then (T ++ [x], R) else (T, R ++ [x])) := hsn
      clear hsn hx hxx hN hS hT hR
      have hTi : (T.length : Int) ≤ 100000 := by have := HTk.out; omega
      -- who stays
      have stays : (P (l.take (k + 1)) = (T, R ++ [x])) → True := fun _ => trivial
      by_cases hz : (T.length : Int) < z
      · have HOx := HO.out (wr.alloc (.cells #[.int .i64 x, .int .i64 (lf x)] 35)) (lf x)
        cases hon : onI h b (lf x)
        · rw [hon] at HOx
          have HE : Hid (P (l.take (k + 1)) = (T, R ++ [x])) := by
            show _ = _
            rw [HC1.out, hon, if_neg (by simp)]
          clear HC1 hon
          go_wp2_with fail
          refine HOx.mono ?_
          rintro e w2 ⟨rfl, q, rfl⟩
          clear HOx
          have K2 : Chg no wr ((wr.alloc (.cells #[.int .i64 x, .int .i64 (lf x)] 35)).drewN q) := ((Chg.refl no wr).alloc _).drewN q
          obtain ⟨cur, p1, p2, p3, p4⟩ := (HS.out.chg (K2.alloc (.cells #[.int .i64 x, .int .i64 (lf x)] 35)) (fun h => h)).put hkn
          rw [List.length_map] at p2 p3 p4
          have HP4 : Hid _ := p4
          have z2 : ((wr.alloc (.cells #[.int .i64 x, .int .i64 (lf x)] 35)).drewN q).heap.size = wr.heap.size + 1 := by simp [World.drewN]
          have HNW : Hid (∀ j u, [Value.int .i64 x, .int .i64 (lf x)][j]? = some u → (((wr.alloc (.cells #[.int .i64 x, .int .i64 (lf x)] 35)).drewN q).alloc (.cells #[.int .i64 x, .int .i64 (lf x)] 35)).cell? ((⟨wr.heap.size + 1, 0, none⟩ : Addr).add j) = some u) := by
            have := news_at (w := (wr.alloc (.cells #[.int .i64 x, .int .i64 (lf x)] 35)).drewN q) (xs := [.int .i64 x, .int .i64 (lf x)]) (t := 35)
            rw [z2] at this
            exact this
          clear z2
          go_wp2_with (at_builtin; refine wpList_append_room rfl _ _ 23 rfl 35 j0 2 Try.underlying23 hj hy1 g R.length c cur p1 rfl ⟨wr.heap.size + 1, 0, none⟩ 1 1 [.int .i64 x, .int .i64 (lf x)] rfl rfl HNW.out (one_i2 _ _) p2 p3 ?_; intro w5 H5 K5)
          have HS5 : Hid (Sft g c n (k + 1) (l.map (itm lf)) ((R ++ [x]).map (itm lf)) w5) := by
            have := HP4.out (x, lf x) w5 H5.out
            rw [List.map_append]
            exact this
          have HN5 : Hid (NewG g w T (.slice xa T.length xc) w5) := HN.out.chg hglt (((K2.alloc _).mono (fun _ h => h.elim)).then K5.out)
          have hRl : (R ++ [x]).length = R.length + 1 := by simp
          clear H5 K5 HP4 p1 p2 p3 p4 HNW HN HS
          go_wp2
          go_roundw
          case rel => exact ⟨k + 1, by omega, by go_num, by rw [HE.out]; exact HN5.out, by rw [HE.out, hRl], by rw [HE.out]; exact HS5.out⟩
          case measure => simp [intOf]; omega
        · rw [hon] at HOx
          have HE : Hid (P (l.take (k + 1)) = (T ++ [x], R)) := by
            show _ = _
            rw [HC1.out, if_pos ⟨(HZ.out _).2 hz, hon⟩]
          clear HC1 hon
          go_wp2_with fail
          refine HOx.mono ?_
          rintro e w2 ⟨rfl, q, rfl⟩
          clear HOx
          have K2 : Chg no wr ((wr.alloc (.cells #[.int .i64 x, .int .i64 (lf x)] 35)).drewN q) := ((Chg.refl no wr).alloc _).drewN q
          have z2 : ((wr.alloc (.cells #[.int .i64 x, .int .i64 (lf x)] 35)).drewN q).heap.size = wr.heap.size + 1 := by simp [World.drewN]
          have HNW : Hid (Lies (fun _ => True) (((wr.alloc (.cells #[.int .i64 x, .int .i64 (lf x)] 35)).drewN q).alloc (.cells #[.int .i64 x] 3)) (.slice (some ⟨wr.heap.size + 1, 0, none⟩) 1 1) ([x].map (Value.int .i64))) := by
            refine .inr ⟨_, 1, rfl, fun _ => trivial, fun j u hu => ?_⟩
            have := news_at (w := (wr.alloc (.cells #[.int .i64 x, .int .i64 (lf x)] 35)).drewN q) (xs := [.int .i64 x]) (t := 3) j u hu
            rw [z2] at this
            exact this
          have HNG : Hid (NewG g w T (.slice xa T.length xc) (((wr.alloc (.cells #[.int .i64 x, .int .i64 (lf x)] 35)).drewN q).alloc (.cells #[.int .i64 x] 3))) := HN.out.chg hglt ((K2.alloc _).mono (fun _ h => h.elim))
          have HSG : Hid (Sft g c n (k + 1) (l.map (itm lf)) (R.map (itm lf)) (((wr.alloc (.cells #[.int .i64 x, .int .i64 (lf x)] 35)).drewN q).alloc (.cells #[.int .i64 x] 3))) := (HS.out.chg (K2.alloc _) (fun h => h)).skip
          clear z2 HN HS K2
          go_wp2_with (at_builtin; refine wpList_append_grew rfl _ _ 22 rfl 3 i0 (.int .i64 0) 8 Try.underlying22 hi hz0 hz1 hz2 rfl (.slice xa T.length xc) T.length (T.map (Value.int .i64)) rfl (owns_base HNG.out.1 (Nat.zero_le _)) (fun _ => True) (.slice (some ⟨wr.heap.size + 1, 0, none⟩) 1 1) ([x].map (Value.int .i64)) rfl HNW.out (ints_one _) (by simp; unfold maxLen; omega) (by simp; omega) ?_; intro v5 w5 G5)
          obtain ⟨N5, C5⟩ := HNG.out.grew G5 rfl
          have hown := HNG.out.1
          have HS5 : Hid (Sft g c n (k + 1) (l.map (itm lf)) (R.map (itm lf)) w5) := HSG.out.chg C5 (fun e => by have := (hown.lt g e).1; omega)
          have HN5 : Hid (NewG g w (T ++ [x]) v5 w5) := N5
          obtain ⟨a5, c5, rfl⟩ := N5.shape
          clear G5 N5 C5 HNG HSG HNW hown
          go_wp2
          go_roundw
          case rel => exact ⟨k + 1, by omega, by go_num, by rw [HE.out]; exact HN5.out, by rw [HE.out], by rw [HE.out]; exact HS5.out⟩
          case measure => simp [intOf]; omega
      · have HE : Hid (P (l.take (k + 1)) = (T, R ++ [x])) := by
          show _ = _
          rw [HC1.out, if_neg]
          rintro ⟨e1, _⟩
          exact hz ((HZ.out _).1 e1)
        clear HC1
        have K2 : Chg no wr (wr.alloc (.cells #[.int .i64 x, .int .i64 (lf x)] 35)) := (Chg.refl no wr).alloc _
        obtain ⟨cur, p1, p2, p3, p4⟩ := (HS.out.chg (K2.alloc (.cells #[.int .i64 x, .int .i64 (lf x)] 35)) (fun h => h)).put hkn
        rw [List.length_map] at p2 p3 p4
        have HP4 : Hid _ := p4
        have z2 : (wr.alloc (.cells #[.int .i64 x, .int .i64 (lf x)] 35)).heap.size = wr.heap.size + 1 := by simp
        have HNW : Hid (∀ j u, [Value.int .i64 x, .int .i64 (lf x)][j]? = some u → ((wr.alloc (.cells #[.int .i64 x, .int .i64 (lf x)] 35)).alloc (.cells #[.int .i64 x, .int .i64 (lf x)] 35)).cell? ((⟨wr.heap.size + 1, 0, none⟩ : Addr).add j) = some u) := by
          have := news_at (w := wr.alloc (.cells #[.int .i64 x, .int .i64 (lf x)] 35)) (xs := [.int .i64 x, .int .i64 (lf x)]) (t := 35)
          rw [z2] at this
          exact this
        clear z2
        go_wp2_with (at_builtin; refine wpList_append_room rfl _ _ 23 rfl 35 j0 2 Try.underlying23 hj hy1 g R.length c cur p1 rfl ⟨wr.heap.size + 1, 0, none⟩ 1 1 [.int .i64 x, .int .i64 (lf x)] rfl rfl HNW.out (one_i2 _ _) p2 p3 ?_; intro w5 H5 K5)
        have HS5 : Hid (Sft g c n (k + 1) (l.map (itm lf)) ((R ++ [x]).map (itm lf)) w5) := by
          have := HP4.out (x, lf x) w5 H5.out
          rw [List.map_append]
          exact this
        have HN5 : Hid (NewG g w T (.slice xa T.length xc) w5) := HN.out.chg hglt (((K2.alloc _).mono (fun _ h => h.elim)).then K5.out)
        have hRl : (R ++ [x]).length = R.length + 1 := by simp
        clear H5 K5 HP4 p1 p2 p3 p4 HNW HN HS
        go_wp2
        go_roundw
        case rel => exact ⟨k + 1, by omega, by go_num, by rw [HE.out]; exact HN5.out, by rw [HE.out, hRl], by rw [HE.out]; exact HS5.out⟩
        case measure => simp [intOf]; omega
    · obtain rfl : k = n := by omega
      have hki : ¬ ((k : Int) < k) := by omega
      have e : l.take k = l := by rw [← EN.out, List.take_length]
      rw [e] at hN hS ⊢
      have HN : Hid (NewG g w (P l).1 (.slice xa (P l).1.length xc) wr) := hN
      have HD : Hid (wr.ownsRow 0 35 2 (.slice (some ⟨g, 0, none⟩) (P l).2.length c) (P l).2.length (((P l).2.map (itm lf)).flatMap f2)) := by
        have := hS.done (Nat.le_refl _)
        rw [List.length_map] at this
        exact this
      clear hN hS e
      go_wp2
      go_returns
      exact ⟨_, rfl, HN.out, HD.out⟩

end Go.Proofs.Ytkaohjlnlgennaa.st
