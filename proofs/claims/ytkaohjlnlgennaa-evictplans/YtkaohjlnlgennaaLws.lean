/- Contracts of the laws' items, fills, buckets, of Held, of the document's SameFills. -/
import Derived.Test.YtkaohjlnlgennaaPlz
namespace Go.Proofs.Ytkaohjlnlgennaa.st
open Go.ChangeShapes Go.WideShapes Go.ChangeAt Go.RowKit Go.Proofs.Ytkaohjlnlgennaa.hp Go.Proofs.Ytkaohjlnlgennaa.tm Go.Proofs.Ytkaohjlnlgennaa.ev
set_option linter.unusedVariables false
set_option linter.unusedSimpArgs false

theorem info60 : (Try.prog.info? 60).map (fun i => (i.zero, i.size, i.bytes)) = some (some (nv 0 0), 2, 16) := by kernel_rfl
theorem info62 : (Try.prog.info? 62).map (fun i => (i.zero, i.size, i.bytes)) = some (some fz, 2, 32) := by kernel_rfl

set_option maxHeartbeats 2000000 in
theorem items_any {J : Nat → Prop} (w : World) (v : Value) (cs : List (Int × Int)) (h : Lie J w v cs.length (cs.flatMap f2)) (hl : cs.length ≤ 100000) :
    Calls Try.prog 12 #[v] w fun e w' => ∃ v', e = .returned v' ∧ NewR 60 2 f2 w cs v' w' := by
  obtain ⟨i0, hi, hz0, hz1, hz2⟩ := info_parts info60
  obtain ⟨x, cx, rfl⟩ := h.slice
  have HL : Hid (∀ W, Chg no w W → ∀ k, k < cs.length → ∃ y, x = some y ∧ W.cell? (y.add (k * 2)) = some (.int .i64 (cs.getD k (0, 0)).1) ∧ W.cell? ⟨(y.add (k * 2)).block, (y.add (k * 2)).off + 1, none⟩ = some (.int .i64 (cs.getD k (0, 0)).2)) := by
    intro W kk k hk
    obtain ⟨y, e1, e2, e3, _⟩ := (h.same kk).at2 k hk
    exact ⟨y, e1, e2, e3⟩
  obtain ⟨n, hn⟩ : ∃ n, cs.length = n := ⟨_, rfl⟩
  have HNN : Hid (cs.length = n) := hn
  rw [hn] at hl HL ⊢
  have hni : (n : Int) ≤ 100000 := by omega
  clear h hn
  go_enter Try.func12, Try.ntmps12
  go_wp2_with fail
  go_loopw [3, 4] (fun v i wr => ∃ k : Nat, k ≤ n ∧ i = .int .i64 (k : Int) ∧ NewR 60 2 f2 w (cs.take k) v wr) (fun _ i _ => n - (intOf i).toNat)
  case atStart => exact ⟨0, by omega, rfl, NewR.nil (Chg.refl no w)⟩
  case round =>
    obtain ⟨k, hk, rfl, hN⟩ := hrel
    by_cases hkn : k < n
    · have hki : (k : Int) < n := by omega
      obtain ⟨y, rfl, e0, e1⟩ := HL.out wr hN.2 k hkn
      have hsn := take_next cs (0, 0) k (by rw [HNN.out]; exact hkn)
      obtain ⟨⟨d, l⟩, hdl⟩ : ∃ x, cs.getD k (0, 0) = x := ⟨_, rfl⟩
      rw [hdl] at e0 e1 hsn
      simp only at e0 e1
      have HE : Hid (cs.take (k + 1) = cs.take k ++ [(d, l)]) := hsn
      have hml : (cs.take k).length ≤ k := List.length_take_le _ _
      obtain ⟨a, c, m, XS, rfl, hm, ho, ha⟩ := ready hN
      rw [← hm] at hml
      have HO : Hid (∀ W, Chg no wr W → W.ownsRow 0 60 2 (.slice a m c) m XS) := ho
      have HA : Hid (∀ (x : Int × Int) (W : World) (v' : Value) (w3 : World), Chg no wr W → w3.ownsRow 0 60 2 v' (m + 1) (XS ++ f2 x) → W.grownBy w3 (Value.slice a m c).ownBlock → (∀ b, v'.ownBlock = some b → (Value.slice a m c).ownBlock = some b ∨ W.heap.size ≤ b) → NewR 60 2 f2 w (cs.take k ++ [x]) v' w3) := ha
      clear hm ho ha hN hsn hdl
      go_wp2_with fail
      go_region_law (refine step_append_at rfl (.tmp 11) (.tmp 23) 32 rfl 60 i0 (nv 0 0) 2 16 Try.underlying32 hi hz0 hz1 hz2 rfl (by decide) (.slice a m c) m XS (by simp [Act.eval]) (HO.out _ ((Chg.refl no wr).alloc _).drew) ⟨wr.heap.size, 0, none⟩ 1 1 [.int .i64 d, .int .i64 l] (by simp [Act.eval]) rfl (news_at (w := wr) (xs := [.int .i64 d, .int .i64 l]) (t := 60)) (one_i2 _ _) (by unfold maxLen; omega) (by omega) ?_; intro v5 w5 o5 g5 p5; have N5 := HA.out (d, l) _ v5 w5 ((Chg.refl no wr).alloc _).drew o5 g5 p5; obtain ⟨a5, c5, rfl⟩ := owns_shape o5; have HN5 : Hid (NewR 60 2 f2 w (cs.take k ++ [(d, l)]) (.slice a5 (m + 1) c5) w5) := N5; clear o5 g5 p5 N5)
      all_goals go_wp2
      all_goals go_roundw
      all_goals first
        | exact ⟨k + 1, by omega, by go_num, by rw [HE.out]; exact HN5.out⟩
        | (simp [intOf]; omega)
    · obtain rfl : k = n := by omega
      have hki : (k : Int) ≤ k := by omega
      have hZ := hN
      rw [← HNN.out, List.take_length] at hZ
      have HZ : Hid (NewR 60 2 f2 w cs _ wr) := hZ
      clear hN hZ
      go_wp2
      go_ret
      exact ⟨_, rfl, HZ.out⟩

set_option maxHeartbeats 2000000 in
theorem fills_any (w : World) (v : Value) (xs : List FV) (h : Fls w v xs) (hl : xs.length ≤ 100000) :
    Calls Try.prog 14 #[v] w fun e w' => ∃ v', e = .returned v' ∧ NewR 62 2 ff w xs v' w' := by
  obtain ⟨i0, hi, hz0, hz1, hz2⟩ := info_parts info62
  obtain ⟨x, cx, rfl⟩ := h.slice
  have HL : Hid (∀ W, Chg no w W → ∀ k, k < xs.length → ∃ y ab cb, x = some y ∧ W.cell? (y.add (k * 2)) = some (.int .i64 (xs.getD k dFV).b) ∧ W.cell? ⟨(y.add (k * 2)).block, (y.add (k * 2)).off + 1, none⟩ = some (.slice ab (xs.getD k dFV).d.length cb) ∧ (xs.getD k dFV).v = .slice ab (xs.getD k dFV).d.length cb) := by
    intro W kk k hk
    obtain ⟨y, ab, cb, e1, e2, e3, e4, _⟩ := (h.later kk).at k hk
    exact ⟨y, ab, cb, e1, e2, e3, e4⟩
  obtain ⟨n, hn⟩ : ∃ n, xs.length = n := ⟨_, rfl⟩
  have HNN : Hid (xs.length = n) := hn
  rw [hn] at hl HL ⊢
  have hni : (n : Int) ≤ 100000 := by omega
  clear h hn
  go_enter Try.func14, Try.ntmps14
  go_wp2_with fail
  go_loopw [3, 4] (fun v i wr => ∃ k : Nat, k ≤ n ∧ i = .int .i64 (k : Int) ∧ NewR 62 2 ff w (xs.take k) v wr) (fun _ i _ => n - (intOf i).toNat)
  case atStart => exact ⟨0, by omega, rfl, NewR.nil (Chg.refl no w)⟩
  case round =>
    obtain ⟨k, hk, rfl, hN⟩ := hrel
    by_cases hkn : k < n
    · have hki : (k : Int) < n := by omega
      obtain ⟨y, ab, cb, rfl, e0, e1, e2⟩ := HL.out wr hN.2 k hkn
      have hsn := take_next xs dFV k (by rw [HNN.out]; exact hkn)
      obtain ⟨⟨d, vx, dx⟩, hdl⟩ : ∃ x, xs.getD k dFV = x := ⟨_, rfl⟩
      rw [hdl] at e0 e1 e2 hsn
      simp only at e0 e1 e2
      obtain ⟨q, hq⟩ : ∃ q, dx.length = q := ⟨_, rfl⟩
      rw [hq] at e1 e2
      have HE : Hid (xs.take (k + 1) = xs.take k ++ [⟨d, .slice ab q cb, dx⟩]) := by
        show _ = _
        rw [hsn, e2]
      have hml : (xs.take k).length ≤ k := List.length_take_le _ _
      obtain ⟨a, c, m, XS, rfl, hm, ho, ha⟩ := ready hN
      rw [← hm] at hml
      have HO : Hid (∀ W, Chg no wr W → W.ownsRow 0 62 2 (.slice a m c) m XS) := ho
      have HA : Hid (∀ (x : FV) (W : World) (v' : Value) (w3 : World), Chg no wr W → w3.ownsRow 0 62 2 v' (m + 1) (XS ++ ff x) → W.grownBy w3 (Value.slice a m c).ownBlock → (∀ b, v'.ownBlock = some b → (Value.slice a m c).ownBlock = some b ∨ W.heap.size ≤ b) → NewR 62 2 ff w (xs.take k ++ [x]) v' w3) := ha
      have H1 : Hid (∀ u ∈ ([.int .i64 d, .slice ab q cb] : List Value), u.oneCell' = true) := by
        intro u hu
        simp at hu
        rcases hu with rfl | rfl <;> rfl
      clear hm ho ha hN hsn hdl e2 hq
      go_wp2_with fail
      go_region_law (refine step_append_at rfl (.tmp 11) (.tmp 23) 29 rfl 62 i0 fz 2 32 Try.underlying29 hi hz0 hz1 hz2 rfl (by decide) (.slice a m c) m XS (by simp [Act.eval]) (HO.out _ ((Chg.refl no wr).alloc _).drew) ⟨wr.heap.size, 0, none⟩ 1 1 [.int .i64 d, .slice ab q cb] (by simp [Act.eval]) rfl (news_at (w := wr) (xs := [.int .i64 d, .slice ab q cb]) (t := 62)) H1.out (by unfold maxLen; omega) (by omega) ?_; intro v5 w5 o5 g5 p5; have N5 := HA.out ⟨d, .slice ab q cb, dx⟩ _ v5 w5 ((Chg.refl no wr).alloc _).drew o5 g5 p5; obtain ⟨a5, c5, rfl⟩ := owns_shape o5; have HN5 : Hid (NewR 62 2 ff w (xs.take k ++ [⟨d, .slice ab q cb, dx⟩]) (.slice a5 (m + 1) c5) w5) := N5; clear o5 g5 p5 N5)
      all_goals go_wp2
      all_goals go_roundw
      all_goals first
        | exact ⟨k + 1, by omega, by go_num, by rw [HE.out]; exact HN5.out⟩
        | (simp [intOf]; omega)
    · obtain rfl : k = n := by omega
      have hki : (k : Int) ≤ k := by omega
      have hZ := hN
      rw [← HNN.out, List.take_length] at hZ
      have HZ : Hid (NewR 62 2 ff w xs _ wr) := hZ
      clear hN hZ
      go_wp2
      go_ret
      exact ⟨_, rfl, HZ.out⟩

theorem buckets_of (w : World) (v : Value) (xs : List FV) (h : Fls w v xs) (hl : xs.length ≤ 100000) :
    Calls Try.prog 19 #[v] w fun e w' => ∃ v', e = .returned v' ∧ New w ((abs xs).map (·.1)) v' w' := by
  obtain ⟨i0, hi, hz0, hz1, hz2⟩ := info_parts info3
  obtain ⟨x, cx, rfl⟩ := h.slice
  have HL : Hid (∀ W, Chg no w W → ∀ k, k < xs.length → ∃ y, x = some y ∧ W.cell? (y.add (k * 2)) = some (.int .i64 (xs.getD k dFV).b)) := by
    intro W kk k hk
    obtain ⟨y, ab, cb, e1, e2, _⟩ := (h.later kk).at k hk
    exact ⟨y, e1, e2⟩
  obtain ⟨bs, hbs⟩ : ∃ bs, (abs xs).map (·.1) = bs := ⟨_, rfl⟩
  have HBS : Hid (∀ k, k < xs.length → bs.getD k 0 = (xs.getD k dFV).b) := fun k hk => by
    rw [← hbs]
    unfold abs
    rw [List.map_map, List.getD_eq_getElem?_getD, List.getElem?_map, List.getD_eq_getElem?_getD, List.getElem?_eq_getElem hk]
    rfl
  have HBL : Hid (bs.length = xs.length) := by show _ = _; rw [← hbs]; simp [abs]
  obtain ⟨n, hn⟩ : ∃ n, xs.length = n := ⟨_, rfl⟩
  rw [hbs]
  rw [hn] at hl HL HBS HBL ⊢
  have hni : (n : Int) ≤ 100000 := by omega
  clear h hn hbs
  go_enter Try.func19, Try.ntmps19
  go_wp2_with fail
  go_loopw [3, 4] (fun v i wr => ∃ k : Nat, k ≤ n ∧ i = .int .i64 (k : Int) ∧ New w (bs.take k) v wr) (fun _ i _ => n - (intOf i).toNat)
  case atStart => exact ⟨0, by omega, rfl, New.nil w⟩
  case round =>
    obtain ⟨k, hk, rfl, hN⟩ := hrel
    obtain ⟨xa, xc, rfl⟩ := hN.shape
    by_cases hkn : k < n
    · have hki : (k : Int) < n := by omega
      obtain ⟨y, rfl, e0⟩ := HL.out wr hN.2 k hkn
      have hsn := take_next bs 0 k (by rw [HBL.out]; exact hkn)
      rw [HBS.out k hkn] at hsn
      obtain ⟨B, hB⟩ : ∃ B, (xs.getD k dFV).b = B := ⟨_, rfl⟩
      rw [hB] at e0 hsn
      obtain ⟨T, hT⟩ : ∃ T, bs.take k = T := ⟨_, rfl⟩
      have hTk : T.length ≤ k := by rw [← hT]; exact List.length_take_le _ _
      rw [hT] at hN hsn ⊢
      have HN : Hid (New w T (.slice xa T.length xc) wr) := hN
      have HE : Hid (bs.take (k + 1) = T ++ [B]) := hsn
      have HW : Hid (Lies (fun _ => True) (wr.alloc (.cells #[.int .i64 B] 3)) (.slice (some ⟨wr.heap.size, 0, none⟩) 1 1) ([B].map (Value.int .i64))) := .inr ⟨_, 1, rfl, fun _ => trivial, fun j u hu => news_at (xs := [.int .i64 B]) j u hu⟩
      clear hN hsn hB hT
      go_wp2_with (at_builtin; refine wpList_append_grew rfl _ _ 22 rfl 3 i0 (.int .i64 0) 8 Try.underlying22 hi hz0 hz1 hz2 rfl (.slice xa T.length xc) T.length (T.map (Value.int .i64)) rfl (owns_base (HN.out.chg ((Chg.refl no wr).alloc _)).1 (Nat.zero_le _)) (fun _ => True) (.slice (some ⟨wr.heap.size, 0, none⟩) 1 1) ([B].map (Value.int .i64)) rfl HW.out (ints_one _) (by simp; unfold maxLen; omega) (by simp; omega) ?_; intro v5 w5 G5)
      have HN5 : Hid (New w (T ++ [B]) v5 w5) := (HN.out.chg ((Chg.refl no wr).alloc _)).grew G5 rfl
      obtain ⟨a5, c5, rfl⟩ := HN5.out.shape
      clear G5 HN HW
      go_wp2
      go_roundw
      case rel => exact ⟨k + 1, by omega, by go_num, by rw [HE.out]; exact HN5.out⟩
      case measure => simp [intOf]; omega
    · obtain rfl : k = n := by omega
      have hki : ¬ ((k : Int) < k) := by omega
      have e : bs.take k = bs := by rw [← HBL.out, List.take_length]
      rw [e] at hN ⊢
      have HN : Hid (New w bs (.slice xa bs.length xc) wr) := hN
      clear hN
      go_wp2
      go_ret
      exact ⟨_, rfl, HN.out⟩

/-- How many ids there are. -/
def held (fs : List (Int × List Int)) : Nat := (fs.map fun f => f.2.length).sum

theorem held_snoc (fs : List (Int × List Int)) (f : Int × List Int) : held (fs ++ [f]) = held fs + f.2.length := by simp [held]
theorem held_take (fs : List (Int × List Int)) (k : Nat) : held (fs.take k) ≤ held fs := by
  have : held fs = held (fs.take k) + held (fs.drop k) := by
    unfold held
    rw [← List.sum_append_nat, ← List.map_append, List.take_append_drop]
  omega

theorem held_any (w : World) (v : Value) (xs : List FV) (h : Fls w v xs) (hl : xs.length ≤ 100000) (hh : held (abs xs) ≤ 100000) :
    Calls Try.prog 21 #[v] w fun e w' => e = .returned (.int .i64 (held (abs xs) : Int)) ∧ Chg no w w' := by
  obtain ⟨x, cx, rfl⟩ := h.slice
  have HL : Hid (∀ W, Chg no w W → ∀ k, k < xs.length → ∃ y ab cb, x = some y ∧ W.cell? (y.add (k * 2)) = some (.int .i64 (xs.getD k dFV).b) ∧ W.cell? ⟨(y.add (k * 2)).block, (y.add (k * 2)).off + 1, none⟩ = some (.slice ab (xs.getD k dFV).d.length cb)) := by
    intro W kk k hk
    obtain ⟨y, ab, cb, e1, e2, e3, _⟩ := (h.later kk).at k hk
    exact ⟨y, ab, cb, e1, e2, e3⟩
  have HS : Hid (∀ k, k < xs.length → held ((abs xs).take (k + 1)) = held ((abs xs).take k) + (xs.getD k dFV).d.length) := fun k hk => by
    rw [take_next (abs xs) (0, []) k (by rw [abs_len]; exact hk), held_snoc, abs_getD]
    rfl
  have HT : Hid (∀ k, held ((abs xs).take k) ≤ held (abs xs)) := fun k => held_take _ k
  have HA : Hid ((abs xs).take xs.length = abs xs) := by show _ = _; rw [← abs_len, List.take_length]
  obtain ⟨n, hn⟩ : ∃ n, xs.length = n := ⟨_, rfl⟩
  obtain ⟨H, hH⟩ : ∃ H, held (abs xs) = H := ⟨_, rfl⟩
  have HH : Hid (held (abs xs) = H) := hH
  rw [hn] at hl HL HS HA ⊢
  rw [hH] at hh HT ⊢
  have hni : (n : Int) ≤ 100000 := by omega
  clear h hn hH
  go_enter Try.func21, Try.ntmps21
  go_wp2_with fail
  go_loopw [3, 8] (fun t i wr => ∃ k : Nat, k ≤ n ∧ i = .int .i64 (k : Int) ∧ t = .int .i64 (held ((abs xs).take k) : Int) ∧ Chg no w wr) (fun _ i _ => n - (intOf i).toNat)
  case atStart => exact ⟨0, by omega, rfl, rfl, Chg.refl no w⟩
  case round =>
    obtain ⟨k, hk, rfl, rfl, hC⟩ := hrel
    have HC : Hid (Chg no w wr) := hC
    clear hC
    by_cases hkn : k < n
    · have hki : (k : Int) < n := by omega
      obtain ⟨y, ab, cb, rfl, e0, e1⟩ := HL.out wr HC.out k hkn
      have hs := HS.out k hkn
      have ht := HT.out (k + 1)
      obtain ⟨q, hq⟩ : ∃ q, (xs.getD k dFV).d.length = q := ⟨_, rfl⟩
      obtain ⟨B, hB⟩ : ∃ B, (xs.getD k dFV).b = B := ⟨_, rfl⟩
      obtain ⟨t, htt⟩ : ∃ t, held ((abs xs).take k) = t := ⟨_, rfl⟩
      rw [hq] at e1 hs
      rw [hB] at e0
      rw [htt] at hs ⊢
      have HE : Hid (held ((abs xs).take (k + 1)) = t + q) := hs
      have htq : (t : Int) + (q : Int) ≤ 100000 := by omega
      have hlt := World.block_lt_of_cell? wr _ e0
      have hne : (y.add (k * 2)).block ≠ wr.heap.size := by omega
      clear hq hB htt hs ht
      go_wp2
      go_roundw
      case rel => exact ⟨k + 1, by omega, by go_num, by rw [HE.out]; go_num, HC.out.alloc _⟩
      case measure => simp [intOf]; omega
    · obtain rfl : k = n := by omega
      have hki : ¬ ((k : Int) < k) := by omega
      rw [HA.out, HH.out]
      go_wp2
      go_ret
      exact ⟨rfl, HC.out⟩

set_option maxHeartbeats 4000000 in
/-- The same fills are told as the same. -/
theorem sameFills_same (w : World) (va vb : Value) (xs ys : List FV) (ha : Fls w va xs) (hb : Fls w vb ys) (hx : xs.length ≤ 100000) (he : abs xs = abs ys) (hd : ∀ x ∈ xs, x.d.length ≤ 100000) :
    Calls Try.prog 13 #[va, vb] w fun e w' => e = .returned (.bool true) ∧ Chg no w w' := by
  obtain ⟨a, ca, rfl⟩ := ha.slice
  obtain ⟨b, cb, rfl⟩ := hb.slice
  have hl : ys.length = xs.length := by rw [← abs_len, ← he, abs_len]
  obtain ⟨n, hn⟩ : ∃ n, xs.length = n := ⟨_, rfl⟩
  have HX : Hid (xs.length = n) := hn
  have HY : Hid (ys.length = n) := by show _ = _; rw [hl]; exact hn
  have HG : Hid (∀ k, k < n → (xs.getD k dFV).b = (ys.getD k dFV).b ∧ (xs.getD k dFV).d = (ys.getD k dFV).d ∧ (xs.getD k dFV).d.length ≤ 100000) := fun k hk => by
    have e : (xs.getD k dFV).fl = (ys.getD k dFV).fl := by rw [← abs_getD, ← abs_getD, he]
    unfold FV.fl at e
    simp only [Prod.mk.injEq] at e
    refine ⟨e.1, e.2, hd _ ?_⟩
    rw [List.getD_eq_getElem?_getD, List.getElem?_eq_getElem (by rw [hn]; exact hk)]
    exact List.getElem_mem _
  rw [hl] at hb ⊢
  rw [hn] at ha hb hx ⊢
  have HA : Hid (Fls w (.slice a n ca) xs) := ha
  have HB : Hid (Fls w (.slice b n cb) ys) := hb
  have hni : (n : Int) ≤ 100000 := by omega
  clear ha hb hl hn he hd hx
  go_enter Try.func13, Try.ntmps13
  go_wp2_with fail
  go_loopw [5] (fun i wr => ∃ k : Nat, k ≤ n ∧ i = .int .i64 (k : Int) ∧ Chg no w wr) (fun i _ => n - (intOf i).toNat)
  case atStart => exact ⟨0, by omega, rfl, Chg.refl no w⟩
  case round =>
    obtain ⟨k, hk, rfl, hC⟩ := hrel
    have HC : Hid (Chg no w wr) := hC
    by_cases hkn : k < n
    · have hki : (k : Int) < n := by omega
      obtain ⟨y1, ab, cb1, rfl, e0, e1, _, l1, _, _⟩ := (HA.out.later hC).at k (by rw [HX.out]; exact hkn)
      obtain ⟨y2, bb, cb2, rfl, f0, f1, _, l2, _, _⟩ := (HB.out.later hC).at k (by rw [HY.out]; exact hkn)
      obtain ⟨g1, g2, g3⟩ := HG.out k hkn
      rw [← g1] at f0
      rw [← g2] at f1 l2
      obtain ⟨i1, hi1⟩ : ∃ i1, (xs.getD k dFV).b = i1 := ⟨_, rfl⟩
      obtain ⟨d1, hd1⟩ : ∃ d1, (xs.getD k dFV).d = d1 := ⟨_, rfl⟩
      rw [hi1] at e0 f0
      rw [hd1] at e1 f1 l1 l2 g3
      have HQ : Hid (∀ q, Calls Try.prog 15 #[.slice ab d1.length cb1, .slice bb d1.length cb2] (wr.drewN q) fun e w' => e = .returned (.bool true) ∧ ∃ n, w' = (wr.drewN q).drewN n) := fun q => ints_same _ _ _ d1 (Lies.later l1 ((Chg.refl no wr).drewN q)) (Lies.later l2 ((Chg.refl no wr).drewN q)) (by omega)
      have hib : (i1 != i1) = false := by simp
      obtain ⟨q1, hq1⟩ : ∃ q1, d1.length = q1 := ⟨_, rfl⟩
      rw [hq1] at e1 f1 HQ
      clear g1 g2 hi1 hd1 l1 l2 hC g3 hq1
      go_wp2_with fail
      go_quiet ((go_at_call 15; exact Calls.quiet_of (HQ.out _)))
      go_wp2
      go_roundw
      case rel => exact ⟨k + 1, by omega, by go_num, HC.out.drewN _⟩
      case measure => simp [intOf]; omega
    · obtain rfl : k = n := by omega
      have hki : (k : Int) ≤ k := by omega
      go_wp2
      go_ret
      exact ⟨rfl, HC.out⟩

end Go.Proofs.Ytkaohjlnlgennaa.st
