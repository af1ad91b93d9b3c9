/- Contract of the document's EncodeBucket. -/
import Derived.Test.YtlcbfdbnjohicaaEco
namespace Go.Proofs.Ytlcbfdbnjohicaa.st
open Go.ChangeShapes Go.WideShapes Go.ChangeAt Go.RowKit Go.Proofs.Ytlcbfdbnjohicaa.hp Go.Proofs.Ytlcbfdbnjohicaa.dg
set_option linter.unusedVariables false

/-- A row of bytes of the call's own. -/
structure RowB (w : World) (zs : List Int) (v : Value) (w' : World) : Prop where
  own : w'.ownsRow w.heap.size 5 1 v zs.length (zs.map (Value.int .u8))
  chg : Chg no w w'

theorem RowB.nil {w w' : World} (k : Chg no w w') : RowB w [] (.slice none 0 0) w' := ⟨World.ownsRow_nil _ _ _ _, k⟩

theorem RowB.shape {w w' : World} {zs : List Int} {v : Value} (h : RowB w zs v w') : ∃ a c, v = .slice a zs.length c := owns_shape h.own

theorem RowB.ready {w wr W : World} {zs : List Int} {v : Value} (h : RowB w zs v wr) (k : Chg no wr W) : W.ownsRow 0 5 1 v zs.length (zs.map (Value.int .u8)) := owns_base (k.owns h.own (fun _ _ h => h)) (Nat.zero_le _)

theorem RowB.next {w wr W w5 : World} {zs ys : List Int} {v v' : Value} (h : RowB w zs v wr) (k : Chg no wr W) (o : w5.ownsRow 0 5 1 v' (zs.length + ys.length) (zs.map (Value.int .u8) ++ ys.map (Value.int .u8))) (g : W.grownBy w5 v.ownBlock) (p : ∀ b, v'.ownBlock = some b → v.ownBlock = some b ∨ W.heap.size ≤ b) : RowB w (zs ++ ys) v' w5 := by
  have s0 := h.chg.size
  have s1 := k.size
  refine ⟨?_, (h.chg.then k).grown g (fun b hb => .inr (h.own.lt b hb).1)⟩
  rw [List.length_append, List.map_append]
  refine ⟨o.1, ?_⟩
  rcases o.2 with hh | ⟨b, cap, cur, e1, _, rest⟩
  · exact .inl hh
  · refine .inr ⟨b, cap, cur, e1, ?_, rest⟩
    rcases p b (by rw [e1]; rfl) with e2 | e2
    · exact (h.own.lt b e2).1
    · omega

theorem lies_some {J : Nat → Prop} {w : World} {a : Option Addr} {l c : Nat} {xs : List Value} (h : Lies J w (.slice a l c) xs) (hx : xs.length ≠ 0) : ∃ y, a = some y ∧ l = xs.length ∧ ∀ i u, xs[i]? = some u → w.cell? (y.add i) = some u := by
  rcases h with ⟨h1, h2⟩ | ⟨y, c', h1, _, h3⟩
  · subst h2
    exact (hx rfl).elim
  · cases h1
    exact ⟨y, rfl, rfl, h3⟩

set_option maxHeartbeats 4000000 in
theorem rencode_any (w : World) (z : Int) (v : Value) (xs : List BV) (h : Bks w v xs) (hx : xs.length ≤ 100000) :
    Calls Try.prog 11 #[.int .i64 z, v] w (EncR (encL z (abs xs)) w) := by
  have HS := rlength_any w z
  have HM := rmay_any w v xs h hx
  obtain ⟨a, cap, rfl⟩ := h.slice
  by_cases hz : 1 ≤ z ∧ z ≤ 4
  · obtain ⟨Z, rfl⟩ := Int.eq_ofNat_of_zero_le (show 0 ≤ z by omega)
    have hle : lenL (Z : Int) = ((38 * Z : Nat) : Int) := by
      unfold lenL
      rw [if_pos hz]
      omega
    rw [hle] at HS
    obtain ⟨N, hN⟩ : ∃ N, 38 * Z = N := ⟨_, rfl⟩
    rw [hN] at hle HS
    have hN1 : (N : Int) ≤ 1048576 := by omega
    have hN0 : ((N : Int) == 0) = false := by simp; omega
    have HN : Hid (38 * Z = N) := hN
    by_cases hm : mayP (abs xs)
    · have hmm : mayL (abs xs) = true := decide_eq_true hm
      rw [hmm] at HM
      have HOK : Hid (∀ b ∈ abs xs, okB b) := hm.1
      have HO : Hid (Bks w (.slice a xs.length cap) xs) := h
      have HB : Hid ((bodyB (abs xs)).length = 38 * xs.length) := by
        rw [Hid, body_length hm.1, abs_len]
      have HT : Hid (∀ v' w', (xs.length : Int) ≤ (Z : Int) → Lies (Anew w) w' v' ((fill (bodyB (abs xs)) N).map (Value.int .u8)) → Chg no w w' → EncR (encL Z (abs xs)) w (.returned (.tuple #[v', .int .i64 0])) w') := by
        intro v' w' hl hL k
        have e := enc_of (z := (Z : Int)) (l := abs xs) hz.1 hz.2 hm (by rw [abs_len]; exact hl)
        rw [e]
        exact ⟨v', rfl, by simpa [hN] using hL, k⟩
      have HR : Hid (∀ w', (Z : Int) < (xs.length : Int) → Chg no w w' → EncR (encL Z (abs xs)) w (.returned (.tuple #[.slice none 0 0, .int .i64 4])) w') := by
        intro w' hl k
        refine EncR.none ?_ k
        unfold encL
        rw [if_pos ⟨hz.1, hz.2, hm⟩, if_neg (by rw [abs_len]; omega)]
      have HLn : Hid (∀ W, Calls Try.prog 17 #[.int .i64 (Z : Int)] W fun e w' => e = .returned (.int .i64 (N : Int)) ∧ w' = W) := by
        intro W
        have := rlength_any W Z
        rw [hle] at this
        exact this
      obtain ⟨n, hn⟩ : ∃ n, xs.length = n := ⟨_, rfl⟩
      have HL : Hid (xs.length = n) := hn
      rw [hn] at HO hx HR HT HB HM ⊢
      have hz4 : Z ≤ 4 := by omega
      have hz1 : 1 ≤ Z := by omega
      have hni : (n : Int) ≤ 100000 := by omega
      clear h hn hm hmm hz hN hle
      by_cases hnZ : n ≤ Z
      · have hnZi : (n : Int) ≤ Z := by omega
        have hzb : decide (Z < n) = false := decide_eq_false (by omega)
        clear HR
        obtain ⟨i0, hi0, hz0, hz1', hz2⟩ := info_parts info5
        go_enter Try.func11, Try.ntmps11
        go_wp2_with fail
        refine HS.mono ?_
        rintro e w0 ⟨rfl, rfl⟩
        clear HS
        go_wp2_with fail
        refine HM.mono ?_
        rintro e w1 ⟨rfl, k1⟩
        clear HM
        have H0 : Hid (RowB w0 (bodyB ((abs xs).take 0)) (.slice none 0 0) w1) := RowB.nil k1
        clear k1
        go_wp2_with fail
        go_loopw [6, 7] (fun u i wr => ∃ k : Nat, k ≤ n ∧ i = .int .i64 (k : Int) ∧ RowB w0 (bodyB ((abs xs).take k)) u wr) (fun _ i _ => n - (intOf i).toNat)
        case atStart => exact ⟨0, by omega, rfl, H0.out⟩
        case round =>
          clear H0
          obtain ⟨k, hk, rfl, hW⟩ := hrel
          have hC := hW.chg
          by_cases hkn : k < n
          · have hki : (k : Int) < n := by omega
            have q1 : k < (abs xs).length := by rw [abs_len, HL.out]; exact hkn
            obtain ⟨y, ab, cb, rfl, e0, e1, hv, _, _, o1, n1⟩ := (HO.out.later hC).at k (by rw [HL.out]; exact hkn)
            have HST := body_step (abs xs) k q1
            have hok : okB ((abs xs).getD k dBk) := HOK.out _ (by rw [List.getD_eq_getElem?_getD, List.getElem?_eq_getElem q1]; exact List.getElem_mem _)
            have hlen : (bodyB ((abs xs).take k)).length = 38 * k := by
              rw [body_length (fun b hb => HOK.out b (List.mem_of_mem_take hb)), List.length_take]
              omega
            have HAT : Hid (∀ W, Chg no w0 W → W.cell? ⟨(y.add (k * 2)).block, (y.add (k * 2)).off + 1, none⟩ = some (.slice ab (xs.getD k dBV).d.length cb)) := by
              intro W K
              obtain ⟨y', ab', cb', hy', f0, f1, hv', _⟩ := (HO.out.later K).at k (by rw [HL.out]; exact hkn)
              cases hy'
              rw [hv] at hv'
              cases hv'
              exact f1
            have hmem : xs.getD k dBV ∈ xs := by
              rw [List.getD_eq_getElem?_getD, List.getElem?_eq_getElem (by rw [HL.out]; exact hkn)]
              exact List.getElem_mem _
            obtain ⟨dl, db⟩ := HO.out.dat _ hmem
            rw [abs_getD] at HST hok
            obtain ⟨⟨i1, v1, d1⟩, hx1⟩ : ∃ X, xs.getD k dBV = X := ⟨_, rfl⟩
            rw [hx1] at e0 e1 hv HST hok dl db HAT
            simp only [BV.bk] at e0 e1 hv HST hok dl db HAT
            subst hv
            obtain ⟨ok1, ok2, ok3⟩ := hok
            simp only at ok1 ok2 ok3
            obtain ⟨m, hm⟩ : ∃ m, (bodyB ((abs xs).take k)).length = m := ⟨_, rfl⟩
            obtain ⟨a', c', hsh⟩ := hW.shape
            rw [hm] at hlen hsh
            subst hsh
            obtain ⟨yd, rfl, _, _⟩ := lies_some dl (by simp [ok3])
            have HDC : Hid (∀ W, Chg no w0 W → ∀ i u, (d1.map (Value.int .u8))[i]? = some u → W.cell? (yd.add i) = some u) := by
              intro W K
              obtain ⟨y2, h2, _, h3⟩ := lies_some (dl.chg K (fun _ _ h => h)) (by simp [ok3])
              cases h2
              exact h3
            have hdl : (d1.map (Value.int .u8)).length = 37 * 1 := by simp [ok3]
            rw [ok3] at e1 HAT
            have hwr : IntKind.i64.wrap (i1 + 1) = i1 + 1 := by simp [IntKind.wrap, IntKind.bits, IntKind.signed]; omega
            have hwr8 : IntKind.u8.wrap (i1 + 1) = i1 + 1 := by simp [IntKind.wrap, IntKind.bits, IntKind.signed]; omega
            have hml : m ≤ 3800000 := by omega
            obtain ⟨XS, hXS⟩ : ∃ XS, (bodyB ((abs xs).take k)).map (Value.int .u8) = XS := ⟨_, rfl⟩
            have HO2 : Hid (∀ W, Chg no wr W → W.ownsRow 0 5 1 (.slice a' m c') m XS) := by
              intro W K
              have := hW.ready K
              rw [hm, hXS] at this
              exact this
            have HA1 : Hid (∀ W v5 w5, Chg no wr W → w5.ownsRow 0 5 1 v5 (m + 1) (XS ++ [.int .u8 (i1 + 1)]) → W.grownBy w5 (Value.slice a' m c').ownBlock → (∀ b, v5.ownBlock = some b → (Value.slice a' m c').ownBlock = some b ∨ W.heap.size ≤ b) → RowB w0 (bodyB ((abs xs).take k) ++ [i1 + 1]) v5 w5) := by
              intro W v5 w5 K o g p
              refine hW.next K ?_ g p
              rw [hm, hXS]
              exact o
            have HRD : Hid (∀ v5 w5, RowB w0 (bodyB ((abs xs).take k) ++ [i1 + 1]) v5 w5 → w5.ownsRow 0 5 1 v5 (m + 1) (XS ++ [.int .u8 (i1 + 1)])) := by
              intro v5 w5 R
              have := R.ready (Chg.refl no w5)
              rw [List.length_append, List.map_append, hm, hXS] at this
              exact this
            have HA2 : Hid (∀ W v5 w5 v6 w6, RowB w0 (bodyB ((abs xs).take k) ++ [i1 + 1]) v5 w5 → Chg no w5 W → w6.ownsRow 0 5 1 v6 (m + 1 + 37) ((XS ++ [.int .u8 (i1 + 1)]) ++ d1.map (Value.int .u8)) → W.grownBy w6 v5.ownBlock → (∀ b, v6.ownBlock = some b → v5.ownBlock = some b ∨ W.heap.size ≤ b) → RowB w0 (bodyB ((abs xs).take (k + 1))) v6 w6) := by
              intro W v5 w5 v6 w6 R K o g p
              rw [HST, show bodyB ((abs xs).take k) ++ (i1 + 1) :: d1 = (bodyB ((abs xs).take k) ++ [i1 + 1]) ++ d1 by simp]
              refine R.next K ?_ g p
              rw [List.length_append, hm, List.map_append, hXS, ok3]
              exact o
            clear HST hlen hx1 hmem dl db q1 ok3 hW hC hXS hm
            go_wp2_with fail
            go_region_law (first
              | (refine step_append_at rfl (.tmp 28) (.tmp 36) 25 rfl 5 i0 (.int .u8 0) 1 1 Try.underlying25 hi0 hz0 hz1' hz2 rfl (by decide) (.slice a' m c') m XS (by simp [Act.eval]) (HO2.out _ (((Chg.refl no wr).alloc _).drew)) ⟨wr.heap.size, 0, none⟩ 1 1 [.int .u8 (i1 + 1)] (by simp [Act.eval]) rfl news_at (ints_oneCell .u8 [i1 + 1]) (by unfold maxLen; omega) (by omega) ?_; intro v5 w5 o5 g5 n5; have N5 := HA1.out _ v5 w5 (((Chg.refl no wr).alloc _).drew) o5 g5 n5; obtain ⟨a5, c5, e5⟩ := owns_shape o5; subst e5; have c51 := HAT.out _ N5.chg; have HN5 : Hid _ := N5; clear o5 g5 n5 N5)
              | (refine step_append_at rfl (.tmp 37) (.tmp 42) 25 rfl 5 i0 (.int .u8 0) 1 1 Try.underlying25 hi0 hz0 hz1' hz2 rfl (by decide) (.slice a5 (m + 1) c5) (m + 1) (XS ++ [.int .u8 (i1 + 1)]) (by simp [Act.eval]) (HRD.out _ _ HN5.out) yd 37 cb (d1.map (Value.int .u8)) (by simp [Act.eval]) hdl (HDC.out _ HN5.out.chg) (ints_oneCell _ _) (by unfold maxLen; omega) (by omega) ?_; intro v6 w6 o6 g6 n6; have N6 := HA2.out _ _ _ v6 w6 HN5.out (Chg.refl no w5) o6 g6 n6; obtain ⟨a6, c6, e6⟩ := owns_shape o6; subst e6; have HN6 : Hid _ := N6; clear o6 g6 n6 N6))
            all_goals go_wp2
            all_goals go_roundw
            all_goals first | exact ⟨k + 1, by omega, by go_num, HN6.out⟩ | (simp [intOf]; omega)
          · obtain rfl : k = n := by omega
            have hki : (k : Int) ≤ k := by omega
            have hE : (abs xs).take k = abs xs := List.take_of_length_le (by rw [abs_len, HL.out]; omega)
            rw [hE] at hW
            obtain ⟨a', c', rfl⟩ := hW.shape
            have HLW := HLn.out wr
            have HFI := rfill_any wr _ _ N (Lies.of_owns (J := fun _ => True) hW.own (fun _ _ => trivial)) (by rw [HB.out, ← HN.out]; omega) (by omega)
            have HC : Hid (Chg no w0 wr) := hC
            clear hE hC hW
            go_wp2_with fail
            refine HLW.mono ?_
            rintro e w5 ⟨rfl, rfl⟩
            go_wp2_with fail
            refine HFI.mono ?_
            rintro e w6 ⟨rfl, g6, k6⟩
            clear HFI HLW
            have HF : Hid (EncR (encL Z (abs xs)) w0 (.returned (.tuple #[.slice (some ⟨w5.heap.size, 0, none⟩) N N, .int .i64 0])) w6) := by
              refine HT.out _ w6 (by omega) ?_ (HC.out.then k6)
              have hl := lies_block g6 N
              have e : (fill (bodyB (abs xs)) N).length = N := fill_length _ _ (by rw [HB.out, ← HN.out]; omega)
              simp only [List.length_map, e] at hl
              have := HC.out.size
              exact hl.mono (fun b hb => by subst hb; exact this)
            clear g6 k6
            go_wp2
            go_ret2
            exact HF.out
      · have hnZi : (Z : Int) < n := by omega
        clear HT HLn HB HOK HO
        go_enter Try.func11, Try.ntmps11
        go_wp2_with fail
        refine HS.mono ?_
        rintro e w0 ⟨rfl, rfl⟩
        clear HS
        go_wp2_with fail
        refine HM.mono ?_
        rintro e w1 ⟨rfl, k1⟩
        clear HM
        go_wp2
        go_ret2
        exact HR.out _ (by omega) k1
    · have hmm : mayL (abs xs) = false := decide_eq_false hm
      rw [hmm] at HM
      have HR : Hid (∀ w', Chg no w w' → EncR (encL Z (abs xs)) w (.returned (.tuple #[.slice none 0 0, .int .i64 1])) w') := by
        intro w' k
        refine EncR.none ?_ k
        unfold encL
        rw [if_neg (fun h => hm h.2.2)]
      clear h hm hmm hz hle
      go_enter Try.func11, Try.ntmps11
      go_wp2_with fail
      refine HS.mono ?_
      rintro e w0 ⟨rfl, rfl⟩
      clear HS
      go_wp2_with fail
      refine HM.mono ?_
      rintro e w1 ⟨rfl, k1⟩
      clear HM
      go_wp2
      go_ret2
      exact HR.out _ k1
  · have hle : lenL z = 0 := by
      unfold lenL
      rw [if_neg hz]
    rw [hle] at HS
    have HR : Hid (EncR (encL z (abs xs)) w (.returned (.tuple #[.slice none 0 0, .int .i64 1])) w) := by
      refine EncR.none ?_ (Chg.refl no w)
      unfold encL
      rw [if_neg (fun h => hz ⟨h.1, h.2.1⟩)]
    clear h HM hz hle
    go_enter Try.func11, Try.ntmps11
    go_wp2_with fail
    refine HS.mono ?_
    rintro e w0 ⟨rfl, rfl⟩
    clear HS
    go_wp2
    go_ret2
    exact HR.out

end Go.Proofs.Ytlcbfdbnjohicaa.st
