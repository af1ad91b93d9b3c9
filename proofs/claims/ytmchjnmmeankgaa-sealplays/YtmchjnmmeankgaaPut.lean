/- Contracts of the document's Put and Num: a number as bytes behind others, and back. -/
import Derived.Test.YtmchjnmmeankgaaNum
namespace Go.Proofs.Ytmchjnmmeankgaa.st
open Go.ChangeShapes Go.WideShapes Go.ChangeAt Go.RowKit Go.Proofs.Ytmchjnmmeankgaa.hp Go.Proofs.Ytmchjnmmeankgaa.dg
set_option linter.unusedVariables false

/-- A row of bytes of the law's own, in the blocks of G. -/
structure Row (w : World) (G : Nat → Prop) (v : Value) (bs : List Int) : Prop where
  own : w.ownsRow 0 5 1 v bs.length (bs.map (Value.int .u8))
  vg : ∀ k, v.ownBlock = some k → G k
  lt : ∀ k, G k → k < w.heap.size

theorem Row.chg {F G : Nat → Prop} {w w' : World} {v : Value} {bs : List Int} (h : Row w G v bs) (c : Chg F w w') (hn : ∀ k, G k → ¬ F k) : Row w' G v bs :=
  ⟨c.owns h.own (fun k hk => hn _ (h.vg k hk)), h.vg, fun k hk => Nat.lt_of_lt_of_le (h.lt k hk) c.size⟩

theorem Row.wide {G H : Nat → Prop} {w : World} {v : Value} {bs : List Int} (h : Row w G v bs) (hn : ∀ k, G k → H k) (hl : ∀ k, H k → k < w.heap.size) : Row w H v bs :=
  ⟨h.own, fun k hk => hn _ (h.vg k hk), hl⟩

theorem put_bad {w : World} {G : Nat → Prop} {v : Value} {bs : List Int} (h : Row w G v bs) (a n : Int) (hh : okN a n = false) :
    Calls Try.prog 53 #[v, .int .i64 a, .int .i64 n] w fun e w' => e = .returned (.tuple #[v, .bool false]) ∧ w' = w := by
  obtain ⟨x, c, rfl⟩ := owns_shape h.own
  have hc : a < 1 ∨ (1 ≤ a ∧ 7 < a) ∨ (1 ≤ a ∧ a ≤ 7 ∧ n < -1) ∨ (1 ≤ a ∧ a ≤ 7 ∧ -1 ≤ n ∧ most a.toNat - 1 < n) := by
    unfold okN at hh
    simp only [decide_eq_false_iff_not] at hh
    unfold most
    omega
  clear h hh
  rcases hc with h1 | ⟨h1, h2⟩ | ⟨h1, h2, h3⟩ | ⟨h1, h2, h3, h4⟩
  · go_enter Try.func53, Try.ntmps53
    go_wp2
    go_ret2
    exact ⟨rfl, rfl⟩
  · go_enter Try.func53, Try.ntmps53
    go_wp2
    go_ret2
    exact ⟨rfl, rfl⟩
  · go_enter Try.func53, Try.ntmps53
    go_wp2
    go_ret2
    exact ⟨rfl, rfl⟩
  · obtain ⟨k, rfl⟩ := Int.eq_ofNat_of_zero_le (show 0 ≤ a by omega)
    have HA := most_any w k (by omega) (by omega)
    have hp := pow_pos k
    have hp2 := pow_le k (by omega)
    have hM0 : 0 ≤ most k ∧ most k ≤ 72057594037927936 := by unfold most; omega
    simp only [Int.toNat_natCast] at h4
    obtain ⟨M, hM⟩ : ∃ M, most k = M := ⟨_, rfl⟩
    rw [hM] at HA h4 hM0
    clear hM hp hp2
    obtain ⟨b1, b2⟩ := hM0
    go_enter Try.func53, Try.ntmps53
    go_wp2_with fail
    refine HA.mono ?_
    rintro e w1 ⟨rfl, rfl⟩
    go_wp2
    go_ret2
    exact ⟨rfl, rfl⟩

/-- Within Put's loop: k bytes are still to come. -/
def PutAt (w : World) (G : Nat → Prop) (v0 : Value) (bs : List Int) (n : Int) (K k : Nat) (v : Value) (wr : World) : Prop :=
  ∃ d, (bs ++ d) ++ enc n k = bs ++ enc n K ∧ Row wr (Wid G w wr) v (bs ++ d) ∧ wr.ownsRow 0 5 1 v0 bs.length (bs.map (Value.int .u8)) ∧ Chg G w wr

set_option maxRecDepth 100000 in
set_option maxRecDepth 100000 in
set_option maxHeartbeats 4000000 in
theorem put_ok {w : World} {G : Nat → Prop} {v : Value} {bs : List Int} (h : Row w G v bs) (hl : bs.length ≤ 100000000) (K : Nat) (h1 : 1 ≤ K) (h2 : K ≤ 7) (n : Int) (hn1 : -1 ≤ n) (hn2 : n < most K) :
    Calls Try.prog 53 #[v, .int .i64 K, .int .i64 n] w fun e w' => ∃ v', e = .returned (.tuple #[v', .bool true]) ∧ Row w' (Wid G w w') v' (bs ++ enc n K) ∧ w'.ownsRow 0 5 1 v bs.length (bs.map (Value.int .u8)) ∧ Chg G w w' := by
  have HP : ∀ m : Int, Hid (PutAt w G v bs m K K v w) := fun m => ⟨[], by simp, by simpa using h.wide (fun k hk => .inl hk) (fun k hk => h.lt k (wid_self k hk)), h.own, Chg.refl _ _⟩
  obtain ⟨x, c, rfl⟩ := owns_shape h.own
  clear h
  have HA := most_any w K h1 h2
  have hp := pow_pos K
  have hp2 := pow_le K h2
  have hM0 : 1 ≤ most K + 1 ∧ most K ≤ 72057594037927936 := by unfold most; omega
  have HE : Hid (enc (most K) K = enc (-1) K) := enc_most K
  obtain ⟨M, hM⟩ : ∃ M, most K = M := ⟨_, rfl⟩
  rw [hM] at HA hn2 hM0 HE
  clear hM hp hp2
  obtain ⟨b1, b2⟩ := hM0
  have i1 : (1 : Int) ≤ K := by omega
  have i2 : (K : Int) ≤ 7 := by omega
  obtain ⟨i0, hi0, hz0, hz1, hz2⟩ := info_parts info5
  by_cases hn : n = -1
  · subst hn
    have HQ : Hid (PutAt w G (.slice x bs.length c) bs M K K (.slice x bs.length c) w) := HP M
    clear HP
    go_enter Try.func53, Try.ntmps53
    go_wp2_with fail
    refine HA.mono ?_
    rintro e w1 ⟨rfl, rfl⟩
    go_wp2_with fail
    refine HA.mono ?_
    rintro e w2 ⟨rfl, rfl⟩
    clear HA
    go_wp2_with fail
    go_loopw [0, 8] (fun vb s wr => ∃ k : Nat, k ≤ K ∧ s = .int .i64 ((k : Int) - 1) ∧ PutAt w2 G (.slice x bs.length c) bs M K k vb wr) (fun _ s _ => (intOf s + 1).toNat)
    case atStart => exact ⟨K, Nat.le_refl _, by go_num, HQ.out⟩
    case round =>
      clear HQ
      obtain ⟨k, hk, hs, hN⟩ := hrel
      obtain ⟨d, hcur, hR, hV, hC⟩ := hN
      obtain ⟨xa, xc, hvb⟩ := owns_shape hR.own
      subst hvb
      rcases k with _ | k
      · simp at hs
        subst hs
        have HR : Hid (Row wr (Wid G w2 wr) (.slice xa (bs ++ d).length xc) (bs ++ d)) := hR
        have HV : Hid (wr.ownsRow 0 5 1 (.slice x bs.length c) bs.length (bs.map (Value.int .u8))) := hV
        clear hR hV
        go_wp2
        go_ret2
        simp only [enc, List.append_nil] at hcur
        rw [HE.out] at hcur
        refine ⟨_, rfl, ?_, HV.out, hC⟩
        rw [← hcur]
        exact HR.out
      · have e : (((k + 1 : Nat) : Int) - 1) = (k : Int) := by omega
        rw [e] at hs
        subst hs
        clear e
        have hk1 : (k : Int) ≤ 6 := by omega
        have hcl : (bs ++ d).length ≤ 100000007 := by
          have := congrArg List.length hcur
          simp only [List.length_append, enc_length] at this ⊢
          omega
        have HR : Hid (Row wr (Wid G w2 wr) (.slice xa (bs ++ d).length xc) (bs ++ d)) := hR
        have HV : Hid (wr.ownsRow 0 5 1 (.slice x bs.length c) bs.length (bs.map (Value.int .u8))) := hV
        have HC : Hid (Chg G w2 wr) := hC
        have HCR : Hid ((bs ++ d) ++ enc M (k + 1) = bs ++ enc M K) := hcur
        obtain ⟨N, hN⟩ : ∃ N, (bs ++ d).length = N := ⟨_, rfl⟩
        rw [hN] at hcl
        have HNN : Hid ((bs ++ d).length = N) := hN
        simp only [hN]
        have HD : Hid (digit M k = (M / 2 ^ (8 * k) % 256)) := rfl
        obtain ⟨X, hX⟩ : ∃ X, (bs ++ d).map (Value.int .u8) = X := ⟨_, rfl⟩
        have HX : Hid ((bs ++ d).map (Value.int .u8) = X) := hX
        have KW : Chg no wr (wr.alloc (.cells #[.int .u8 (M / 2 ^ (8 * k) % 256)] 5)) := ((Chg.refl no wr).alloc _)
        have HO : Hid ((wr.alloc (.cells #[.int .u8 (M / 2 ^ (8 * k) % 256)] 5)).ownsRow 0 5 1 (.slice xa N xc) N X) := by
          have := KW.owns HR.out.own (fun _ _ h => h)
          rw [HNN.out, HX.out] at this
          exact this
        have HNw : Hid (Lies (fun b => b = wr.heap.size) (wr.alloc (.cells #[.int .u8 (M / 2 ^ (8 * k) % 256)] 5)) (.slice (some ⟨wr.heap.size, 0, none⟩) 1 1) [.int .u8 (M / 2 ^ (8 * k) % 256)]) := lies_new [.int .u8 (M / 2 ^ (8 * k) % 256)] 5
        have H1 : ∀ u ∈ ([.int .u8 (M / 2 ^ (8 * k) % 256)] : List Value), u.oneCell' = true := by
          intro u hu
          simp at hu
          subst hu
          rfl
        have HEnd : Hid (∀ v5 w5, Grew 5 (wr.alloc (.cells #[.int .u8 (M / 2 ^ (8 * k) % 256)] 5)) w5 (.slice xa N xc) v5 N X [.int .u8 (M / 2 ^ (8 * k) % 256)] → PutAt w2 G (.slice x bs.length c) bs M K k v5 w5) := by
          intro v5 w5 gr
          have hC5 : Chg (Wid G w2 wr) wr w5 := (KW.of_no _).grown gr.grown (fun k hk => .inl (HR.out.vg k (by rw [HNN.out]; exact hk)))
          have C5 : Chg G w2 w5 := HC.out.trans hC5 wid_sub
          have z0 := HC.out.size
          have z5 := hC5.size
          have zk := KW.size
          have o5 := gr.own
          refine ⟨d ++ [digit M k], ?_, ⟨?_, ?_, ?_⟩, gr.keep _ _ _ (KW.owns HV.out (fun _ _ h => h)) ?_, C5⟩
          · rw [← HCR.out]
            simp [enc]
          · rw [HD.out]
            have e1 : (bs ++ (d ++ [(M / 2 ^ (8 * k) % 256)])).length = N + 1 := by rw [← HNN.out]; simp; omega
            rw [e1]
            have e2 : (bs ++ (d ++ [(M / 2 ^ (8 * k) % 256)])).map (Value.int .u8) = X ++ [.int .u8 (M / 2 ^ (8 * k) % 256)] := by rw [← HX.out]; simp
            rw [e2]
            exact o5
          · intro k' hk'
            have := (o5.lt k' hk').2
            rcases gr.place k' hk' with e | e
            · rcases HR.out.vg k' (by rw [HNN.out]; exact e) with q | q
              · exact .inl q
              · exact .inr ⟨q.1, by omega⟩
            · exact .inr ⟨by omega, by omega⟩
          · intro k' hk'
            rcases hk' with hk' | hk'
            · have := HR.out.lt k' (.inl hk')
              omega
            · exact hk'.2
          · intro b _ _
            rw [← HX.out]
            simp
        clear hR hV hC hcur KW hN hX
        go_wp2_with (at_builtin; refine wpList_append_grew rfl _ _ 22 rfl 5 i0 (.int .u8 0) 1 Try.underlying22 hi0 hz0 hz1 hz2 rfl (.slice xa N xc) N X rfl HO.out (fun b => b = wr.heap.size) (.slice (some ⟨wr.heap.size, 0, none⟩) 1 1) [.int .u8 (M / 2 ^ (8 * k) % 256)] rfl HNw.out H1 ?c1 ?c2 ?_)
        case c1 => simp; unfold maxLen; omega
        case c2 => simp; omega
        intro v5 w5 gr
        have y5 := HEnd.out _ _ gr
        obtain ⟨a5, c5, rfl⟩ := owns_shape gr.own
        clear HEnd gr
        go_wp2
        go_roundw
        case rel => exact ⟨k, by omega, by go_num, y5⟩
        case measure => simp [intOf]; try omega
  · have HQ : Hid (PutAt w G (.slice x bs.length c) bs n K K (.slice x bs.length c) w) := HP n
    clear HP
    have hnI : 0 ≤ n := by omega
    have hnb : (n == -1) = false := by simpa using hn
    go_enter Try.func53, Try.ntmps53
    go_wp2_with fail
    refine HA.mono ?_
    rintro e w2 ⟨rfl, rfl⟩
    clear HA
    go_wp2_with fail
    go_loopw [0, 8] (fun vb s wr => ∃ k : Nat, k ≤ K ∧ s = .int .i64 ((k : Int) - 1) ∧ PutAt w2 G (.slice x bs.length c) bs n K k vb wr) (fun _ s _ => (intOf s + 1).toNat)
    case atStart => exact ⟨K, Nat.le_refl _, by go_num, HQ.out⟩
    case round =>
      clear HQ
      obtain ⟨k, hk, hs, hN⟩ := hrel
      obtain ⟨d, hcur, hR, hV, hC⟩ := hN
      obtain ⟨xa, xc, hvb⟩ := owns_shape hR.own
      subst hvb
      rcases k with _ | k
      · simp at hs
        subst hs
        have HR : Hid (Row wr (Wid G w2 wr) (.slice xa (bs ++ d).length xc) (bs ++ d)) := hR
        have HV : Hid (wr.ownsRow 0 5 1 (.slice x bs.length c) bs.length (bs.map (Value.int .u8))) := hV
        clear hR hV
        go_wp2
        go_ret2
        simp only [enc, List.append_nil] at hcur
        skip
        refine ⟨_, rfl, ?_, HV.out, hC⟩
        rw [← hcur]
        exact HR.out
      · have e : (((k + 1 : Nat) : Int) - 1) = (k : Int) := by omega
        rw [e] at hs
        subst hs
        clear e
        have hk1 : (k : Int) ≤ 6 := by omega
        have hcl : (bs ++ d).length ≤ 100000007 := by
          have := congrArg List.length hcur
          simp only [List.length_append, enc_length] at this ⊢
          omega
        have HR : Hid (Row wr (Wid G w2 wr) (.slice xa (bs ++ d).length xc) (bs ++ d)) := hR
        have HV : Hid (wr.ownsRow 0 5 1 (.slice x bs.length c) bs.length (bs.map (Value.int .u8))) := hV
        have HC : Hid (Chg G w2 wr) := hC
        have HCR : Hid ((bs ++ d) ++ enc n (k + 1) = bs ++ enc n K) := hcur
        obtain ⟨N, hN⟩ : ∃ N, (bs ++ d).length = N := ⟨_, rfl⟩
        rw [hN] at hcl
        have HNN : Hid ((bs ++ d).length = N) := hN
        simp only [hN]
        have HD : Hid (digit n k = (n / 2 ^ (8 * k) % 256)) := rfl
        obtain ⟨X, hX⟩ : ∃ X, (bs ++ d).map (Value.int .u8) = X := ⟨_, rfl⟩
        have HX : Hid ((bs ++ d).map (Value.int .u8) = X) := hX
        have KW : Chg no wr (wr.alloc (.cells #[.int .u8 (n / 2 ^ (8 * k) % 256)] 5)) := ((Chg.refl no wr).alloc _)
        have HO : Hid ((wr.alloc (.cells #[.int .u8 (n / 2 ^ (8 * k) % 256)] 5)).ownsRow 0 5 1 (.slice xa N xc) N X) := by
          have := KW.owns HR.out.own (fun _ _ h => h)
          rw [HNN.out, HX.out] at this
          exact this
        have HNw : Hid (Lies (fun b => b = wr.heap.size) (wr.alloc (.cells #[.int .u8 (n / 2 ^ (8 * k) % 256)] 5)) (.slice (some ⟨wr.heap.size, 0, none⟩) 1 1) [.int .u8 (n / 2 ^ (8 * k) % 256)]) := lies_new [.int .u8 (n / 2 ^ (8 * k) % 256)] 5
        have H1 : ∀ u ∈ ([.int .u8 (n / 2 ^ (8 * k) % 256)] : List Value), u.oneCell' = true := by
          intro u hu
          simp at hu
          subst hu
          rfl
        have HEnd : Hid (∀ v5 w5, Grew 5 (wr.alloc (.cells #[.int .u8 (n / 2 ^ (8 * k) % 256)] 5)) w5 (.slice xa N xc) v5 N X [.int .u8 (n / 2 ^ (8 * k) % 256)] → PutAt w2 G (.slice x bs.length c) bs n K k v5 w5) := by
          intro v5 w5 gr
          have hC5 : Chg (Wid G w2 wr) wr w5 := (KW.of_no _).grown gr.grown (fun k hk => .inl (HR.out.vg k (by rw [HNN.out]; exact hk)))
          have C5 : Chg G w2 w5 := HC.out.trans hC5 wid_sub
          have z0 := HC.out.size
          have z5 := hC5.size
          have zk := KW.size
          have o5 := gr.own
          refine ⟨d ++ [digit n k], ?_, ⟨?_, ?_, ?_⟩, gr.keep _ _ _ (KW.owns HV.out (fun _ _ h => h)) ?_, C5⟩
          · rw [← HCR.out]
            simp [enc]
          · rw [HD.out]
            have e1 : (bs ++ (d ++ [(n / 2 ^ (8 * k) % 256)])).length = N + 1 := by rw [← HNN.out]; simp; omega
            rw [e1]
            have e2 : (bs ++ (d ++ [(n / 2 ^ (8 * k) % 256)])).map (Value.int .u8) = X ++ [.int .u8 (n / 2 ^ (8 * k) % 256)] := by rw [← HX.out]; simp
            rw [e2]
            exact o5
          · intro k' hk'
            have := (o5.lt k' hk').2
            rcases gr.place k' hk' with e | e
            · rcases HR.out.vg k' (by rw [HNN.out]; exact e) with q | q
              · exact .inl q
              · exact .inr ⟨q.1, by omega⟩
            · exact .inr ⟨by omega, by omega⟩
          · intro k' hk'
            rcases hk' with hk' | hk'
            · have := HR.out.lt k' (.inl hk')
              omega
            · exact hk'.2
          · intro b _ _
            rw [← HX.out]
            simp
        clear hR hV hC hcur KW hN hX
        go_wp2_with (at_builtin; refine wpList_append_grew rfl _ _ 22 rfl 5 i0 (.int .u8 0) 1 Try.underlying22 hi0 hz0 hz1 hz2 rfl (.slice xa N xc) N X rfl HO.out (fun b => b = wr.heap.size) (.slice (some ⟨wr.heap.size, 0, none⟩) 1 1) [.int .u8 (n / 2 ^ (8 * k) % 256)] rfl HNw.out H1 ?c1 ?c2 ?_)
        case c1 => simp; unfold maxLen; omega
        case c2 => simp; omega
        intro v5 w5 gr
        have y5 := HEnd.out _ _ gr
        obtain ⟨a5, c5, rfl⟩ := owns_shape gr.own
        clear HEnd gr
        go_wp2
        go_roundw
        case rel => exact ⟨k, by omega, by go_num, y5⟩
        case measure => simp [intOf]; try omega

/-- The document's bytes behind a Put. -/
def putS (bs : List Int) (a n : Int) : List Int := if okN a n then bs ++ enc n a.toNat else bs

theorem put_any {w : World} {G : Nat → Prop} {v : Value} {bs : List Int} (h : Row w G v bs) (hl : bs.length ≤ 100000000) (a n : Int) :
    Calls Try.prog 53 #[v, .int .i64 a, .int .i64 n] w fun e w' => ∃ v', e = .returned (.tuple #[v', .bool (okN a n)]) ∧ Row w' (Wid G w w') v' (putS bs a n) ∧ Row w' (Wid G w w') v bs ∧ Chg G w w' := by
  unfold putS
  cases hO : okN a n with
  | false =>
    refine (put_bad h a n hO).mono ?_
    rintro e w' ⟨rfl, rfl⟩
    have h' := h.wide (H := Wid G w' w') (fun k hk => .inl hk) (fun k hk => h.lt k (wid_self k hk))
    exact ⟨_, rfl, by simpa using h', h', Chg.refl _ _⟩
  | true =>
    have hh : 1 ≤ a ∧ a ≤ 7 ∧ -1 ≤ n ∧ n + 2 ≤ 2 ^ (8 * a.toNat) := by
      unfold okN at hO
      exact of_decide_eq_true hO
    obtain ⟨k, rfl⟩ := Int.eq_ofNat_of_zero_le (show 0 ≤ a by omega)
    simp only [Int.toNat_natCast] at hh
    refine (put_ok h hl k (by omega) (by omega) n hh.2.2.1 (by unfold most; omega)).mono ?_
    rintro e w' ⟨v', rfl, hR, hV, hC⟩
    exact ⟨v', rfl, by simpa using hR, ⟨hV, fun k hk => .inl (h.vg k hk), wid_lt h.lt hC.size⟩, hC⟩

end Go.Proofs.Ytmchjnmmeankgaa.st
