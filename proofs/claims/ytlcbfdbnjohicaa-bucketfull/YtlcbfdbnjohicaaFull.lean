/-
  Proved: for every z and every byte the law BucketFull returns true; no condition.
-/
import Derived.Test.YtlcbfdbnjohicaaFulS
import Derived.Test.YtlcbfdbnjohicaaRows
namespace Go.Proofs.Ytlcbfdbnjohicaa.bucketFull
open Go.ChangeShapes Go.WideShapes Go.ChangeAt Go.RowKit Go.Proofs.Ytlcbfdbnjohicaa.hp Go.Proofs.Ytlcbfdbnjohicaa.dg Go.Proofs.Ytlcbfdbnjohicaa.st
set_option linter.unusedVariables false

theorem early (w : World) (z c : Int) (hz : ¬ (1 ≤ z ∧ z ≤ 4)) :
    Calls Try.prog 7 #[.int .i64 z, .int .u8 c] w fun e w' => e = .returned (.bool true) ∧ Below w.heap.size w w' := by
  have HF := first_any
  have HE : ∀ W, Calls Try.prog 10 #[.int .i64 z, .slice none 0 0] W (EncR ([], 1) W) := by
    intro W
    have := encode_any W z (.slice none 0 0) [] (Bks.nil W) (by simp)
    rw [show encL z (abs []) = ([], 1) by unfold encL; rw [if_neg (fun k => hz ⟨k.1, k.2.1⟩)]] at this
    exact this
  have HL := fun W => length_any W z
  rw [show lenL z = 0 by unfold lenL; rw [if_neg hz]] at HL
  have hc : z < 1 ∨ (1 ≤ z ∧ 4 < z) := by omega
  clear hz
  rcases hc with h1 | ⟨h1, h2⟩
  all_goals
    go_enter Try.func7, Try.ntmps7
    go_wp2_with fail
    refine (HF w).mono ?_
    rintro e w1 ⟨rfl, k1⟩
    go_wp2_with fail
    refine (HE w1).mono ?_
    rintro e w2 ⟨v2, rfl, l2, k2⟩
    obtain ⟨a2, c2, rfl, _⟩ := l2.slice
    simp only [List.map_nil, List.length_nil] at l2 ⊢
    go_wp2_with fail
    refine (HF w2).mono ?_
    rintro e w3 ⟨rfl, k3⟩
    go_wp2_with fail
    refine (HL w3).mono ?_
    rintro e w4 ⟨rfl, rfl⟩
    go_wp2
    go_ret
    exact ⟨rfl, ((k1.then k2).then k3).below⟩

theorem lies_drop1 {J : Nat → Prop} {w : World} {g n c d : Nat} {xs : List Value} (h : Lies J w (.slice (some ⟨g, 0, none⟩) n c) xs) (hn : xs.length = n) : Lies J w (.slice (some ⟨g, 1, none⟩) (n - 1) d) (xs.drop 1) := by
  rcases h with ⟨h1, _⟩ | ⟨y, cp, h1, hJ, hc⟩
  · cases h1
  · injection h1 with e1 e2 e3
    injection e1 with e1
    subst e1
    refine .inr ⟨⟨g, 1, none⟩, d, ?_, fun hne => hJ (fun e => ?_), fun i u hu => ?_⟩
    · rw [List.length_drop, hn]
    · subst e
      exact hne rfl
    · rw [List.getElem?_drop] at hu
      have := hc (1 + i) u hu
      rw [Addr.add_lit] at this ⊢
      simpa [Nat.add_comm] using this

set_option maxRecDepth 100000 in
set_option maxHeartbeats 8000000 in
theorem late (w : World) (Z : Nat) (c : Int) (hz1 : 1 ≤ Z) (hz4 : Z ≤ 4) (hc : 0 ≤ c ∧ c ≤ 255) :
    Calls Try.prog 7 #[.int .i64 Z, .int .u8 c] w fun e w' => e = .returned (.bool true) ∧ Below w.heap.size w w' := by
  have HF := first_any
  have hm37 : ∀ w, (Instr.makeSlice 25 (.int .i64 37) (.int .i64 37)).run Try.prog w = .ok (.slice (some ⟨w.heap.size, 0, none⟩) 37 37) (w.alloc (.cells (madeCells #[.int .u8 0] 37) 5)) := fun w => run_make_row' (P := Try.prog) 25 5 (.int .u8 0) 1 Try.underlying25 info5 rfl .i64 .i64 37 (by omega) (by omega) w
  obtain ⟨i0, hi, hy0, hy1, hy2⟩ := info_parts' info46
  have hz1i : 1 ≤ (Z : Int) := by omega
  have hz4i : (Z : Int) ≤ 4 := by omega
  have hd1 : decide ((Z : Int) < 1) = false := decide_eq_false (by omega)
  have hd2 : decide ((4 : Int) < (Z : Int)) = false := decide_eq_false (by omega)
  have HC : Hid (0 ≤ c ∧ c ≤ 255) := hc
  clear hc
  go_enter Try.func7, Try.ntmps7
  go_wp2_with fail
  refine (HF w).mono ?_
  rintro e w1 ⟨rfl, k1⟩
  have H0 : Hid (Ful w c 0 [] no (.slice none 0 0) w1) := ⟨NewB.empty k1, rfl, fun x hx => by simp at hx⟩
  clear k1
  go_wp2_with fail
  go_loopw [7, 8] (fun u i wr => ∃ k : Nat, k ≤ Z + 1 ∧ i = .int .i64 (k : Int) ∧ ∃ xs D, Ful w c k xs D u wr) (fun _ i _ => Z + 1 - (intOf i).toNat)
  case atStart => exact ⟨0, by omega, rfl, _, _, H0.out⟩
  case round =>
    clear H0
    obtain ⟨k, hk, rfl, xs, D, hR⟩ := hrel
    by_cases hkn : k ≤ Z
    · have hki : (k : Int) ≤ Z := by omega
      obtain ⟨a', c', XS, rfl, ho, hadd⟩ := hR.step HC.out (by omega) rfl
      have hb0 : (wr.alloc (.cells (madeCells #[Value.int .u8 0] 37) 5)).heap[wr.heap.size]? = some (.cells ((List.replicate 37 (0 : Int)).map (Value.int .u8)).toArray 5 (0, 0)) := by
        rw [← made_eq]
        exact heap_alloc_new _ _
      obtain ⟨e0, f0⟩ := row_cell hb0 k (.int .u8 0) (by rw [List.getElem?_map, List.getElem?_replicate, if_pos (by omega)]; rfl)
      clear hb0
      have hnw := news_at (w := wr.alloc (.cells ((madeCells #[Value.int .u8 0] 37).setIfInBounds k (.int .u8 c)) 5)) (xs := [.int .i64 (9 - (k : Int)), .slice (some ⟨wr.heap.size, 0, none⟩) 37 37]) (t := 46)
      rw [show (wr.alloc (.cells ((madeCells #[Value.int .u8 0] 37).setIfInBounds k (.int .u8 c)) 5)).heap.size = wr.heap.size + 1 by simp] at hnw
      have HNw : Hid _ := hnw
      have HO : Hid _ := ho
      have HA : Hid _ := hadd
      clear hR ho hadd hnw
      go_wp2_with (at_builtin; refine wpList_append_at rfl _ _ 22 rfl 46 i0 bz 2 32 Try.underlying22 hi hy0 hy1 hy2 rfl (by decide) (.slice a' k c') k XS rfl HO.out ⟨wr.heap.size + 1, 0, none⟩ 1 1 [.int .i64 (9 - (k : Int)), .slice (some ⟨wr.heap.size, 0, none⟩) 37 37] rfl rfl HNw.out (one_b _ _ _ _) (by unfold maxLen; omega) (by omega) ?_)
      intro v5 w5 o5 g5 n5
      obtain ⟨xs', D', hN⟩ := HA.out v5 w5 o5 g5 (by simpa using n5)
      obtain ⟨a5, c5, rfl⟩ := owns_shape o5
      have HN : Hid _ := hN
      clear o5 g5 n5 hN HA
      go_wp2
      go_roundw
      case rel => exact ⟨k + 1, by omega, by go_num, xs', D', HN.out⟩
      case measure => simp [intOf]; omega
    · obtain rfl : k = Z + 1 := by omega
      have hki : decide ((Z : Int) + 1 ≤ (Z : Int)) = false := decide_eq_false (by omega)
      obtain ⟨g, cp, g0, rfl, q1, q2, HCc, hg⟩ := hR.at
      have hl := hR.len
      have ht := hR.told
      have HBk : Hid (∀ W, Chg no wr W → Bks W (.slice (some ⟨g, 0, none⟩) (Z + 1) cp) xs) := fun W k => hR.row.bks.later k
      have HBt : Hid (∀ W, Chg no wr W → Bks W (.slice (some ⟨g, 0, none⟩) Z cp) (xs.take Z)) := fun W k => (hR.row.bks.later k).take Z (by omega) (by omega)
      have hT : abs (xs.take Z) = mkL c Z := by
        rw [← mk_take, ← ht]
        simp [abs]
      have htl : (xs.take Z).length = Z := by rw [List.length_take]; omega
      have HT : Hid (abs (xs.take Z) = mkL c Z ∧ (xs.take Z).length = Z) := ⟨hT, htl⟩
      have HK : Hid (Chg no w wr) := hR.row.chg
      have E1 := encode_any wr (Z : Int) _ xs (HBk.out wr (Chg.refl no wr)) (by omega)
      rw [ht, enc_full c Z hz1 hz4] at E1
      have hX0 := enc_fits c Z hz1 hz4
      have hXd := dec_enc9 hX0
      have hXe := enc_ok hX0
      have hXb : Bytes (encL (Z : Int) (mkL c Z)).1 := enc_bytes (fun b hb => by
        obtain ⟨i, _, rfl⟩ := List.mem_map.1 hb
        exact dat_bytes HC.out i)
      obtain ⟨⟨X, er⟩, hX⟩ : ∃ R, encL (Z : Int) (mkL c Z) = R := ⟨_, rfl⟩
      have hXl : X.length ≤ 200 := by
        have e : X = fill (bodyB (mkL c Z)) (38 * (Z : Int).toNat) := by
          have := hXe.2.2.2.2
          rw [hX] at this
          exact congrArg Prod.fst this
        rw [e, fill_len38 (by omega) (mk_may c Z (by omega)) (by rw [mk_len]; omega)]
        omega
      rw [hX] at hX0 hXd hXb
      simp only at hX0 hXd hXb
      subst hX0
      have HE2 : Hid (∀ W, Chg no wr W → Calls Try.prog 10 #[.int .i64 Z, .slice (some ⟨g, 0, none⟩) Z cp] W (EncR (X, 0) W)) := by
        intro W k
        have := encode_any W (Z : Int) _ _ (HBt.out W k) (by rw [htl]; omega)
        rw [hT, hX] at this
        exact this
      have HDX : Hid (∀ W v, Lies (fun _ => True) W v (X.map (Value.int .u8)) → Calls Try.prog 20 #[.int .i64 Z, v] W (DecR 46 (mkL c Z, 0) W)) := by
        intro W v h
        have := decode_any W (Z : Int) v X h hXb (by omega)
        rw [hXd] at this
        exact this
      have HCl : Hid (∀ W, Chg no wr W → W.cell? ⟨g, 0, none⟩ = some (.int .i64 9) ∧ W.cell? ⟨g, 1, none⟩ = some (.slice (some ⟨g0, 0, none⟩) 37 37) ∧ Lies (Old W) W (.slice (some ⟨g0, 0, none⟩) 37 37) ((dat c 0).map (Value.int .u8))) := HCc
      have HE3 : Hid (∀ W b, Chg no wr W → W.heap[b]? = some (.cells #[.int .i64 9, .slice (some ⟨g0, 0, none⟩) 37 37, .int .i64 9, .slice (some ⟨g0, 0, none⟩) 37 37] 46 (0, 0)) → Calls Try.prog 10 #[.int .i64 Z, .slice (some ⟨b, 0, none⟩) 2 2] W (EncR ([], 1) W)) := by
        intro W b k h
        have := encode_any W (Z : Int) _ _ (bks_two h (HCl.out W k).2.2 (dat_bytes HC.out 0)) (by simp)
        rw [show abs [⟨9, .slice (some ⟨g0, 0, none⟩) 37 37, dat c 0⟩, ⟨9, .slice (some ⟨g0, 0, none⟩) 37 37, dat c 0⟩] = [(9, dat c 0), (9, dat c 0)] from rfl, enc_not (not_twice _)] at this
        exact this
      have HE4 : Hid (∀ W b, Chg no wr W → W.heap[b]? = some (.cells #[.int .i64 1, .slice (some ⟨g0, 1, none⟩) 36 36] 46 (0, 0)) → Calls Try.prog 10 #[.int .i64 Z, .slice (some ⟨b, 0, none⟩) 1 1] W (EncR ([], 1) W)) := by
        intro W b k h
        have hL := lies_drop1 (d := 36) (HCl.out W k).2.2 (by rw [List.length_map, dat_len])
        rw [← List.map_drop] at hL
        have := encode_any W (Z : Int) _ _ (bks_one h (Lies.old hL) ((dat_bytes HC.out 0).drop 1)) (by simp)
        rw [show abs [⟨1, .slice (some ⟨g0, 1, none⟩) 36 36, (dat c 0).drop 1⟩] = [(1, (dat c 0).drop 1)] from rfl, enc_not (not_short _ _ (by rw [List.length_drop, dat_len]; omega))] at this
        exact this
      have HE5 : Hid (∀ W b, Chg no wr W → W.heap[b]? = some (.cells #[.int .i64 64, .slice (some ⟨g0, 0, none⟩) 37 37] 46 (0, 0)) → Calls Try.prog 10 #[.int .i64 Z, .slice (some ⟨b, 0, none⟩) 1 1] W (EncR ([], 1) W)) := by
        intro W b k h
        have := encode_any W (Z : Int) _ _ (bks_one h (HCl.out W k).2.2 (dat_bytes HC.out 0)) (by simp)
        rw [show abs [⟨64, .slice (some ⟨g0, 0, none⟩) 37 37, dat c 0⟩] = [(64, dat c 0)] from rfl, enc_not (not_id _)] at this
        exact this
      have hcp : (Z : Int) + 1 ≤ cp := by omega
      have hcp2 : (cp : Int) ≤ 9223372036854775807 := by unfold maxLen at q2; omega
      clear hR hl ht hT htl hX hXd hXe hXb hXl HCc q1 q2
      go_wp2_with fail
      refine E1.mono ?_
      rintro e w2 ⟨v2, rfl, l2, k2⟩
      obtain ⟨a2, c2, rfl, _⟩ := l2.slice
      simp only [List.map_nil, List.length_nil] at l2 ⊢
      clear l2 E1
      have HK2 : Hid (Chg no wr w2) := k2
      clear k2
      go_wp2_with fail
      refine (HE2.out w2 HK2.out).mono ?_
      rintro e w3 ⟨v3, rfl, l3, k3⟩
      obtain ⟨a3, c3, rfl, _⟩ := l3.slice
      simp only [List.length_map] at l3 ⊢
      have HD3 := HDX.out w3 _ (l3.mono (fun _ _ => trivial))
      have HK3 : Hid (Chg no wr w3) := HK2.out.then k3
      clear k3 HE2 HDX l3
      go_wp2_with fail
      refine HD3.mono ?_
      rintro e w4 ⟨v4, ms, D4, rfl, hm4, N4, _⟩
      obtain ⟨a4, c4, rfl⟩ := N4.shape
      have HK4 : Hid (Chg no wr w4) := HK3.out.then N4.chg
      simp only at hm4 ⊢
      have hml : ms.length = Z := by rw [← abs_len, hm4, mk_len]
      have HSA : Hid (∀ W, Chg no w4 W → Calls Try.prog 18 #[.slice a4 ms.length c4, .slice (some ⟨g, 0, none⟩) Z cp] W fun e w' => e = .returned (.bool true) ∧ Chg no W w') := by
        intro W k
        have := same_any W _ _ ms (xs.take Z) (N4.bks.later k) (HBt.out W (HK4.out.then k)) (by omega) (by rw [HT.out.2]; omega)
        rw [hm4, HT.out.1, show sameL (mkL c Z) (mkL c Z) = true from decide_eq_true rfl] at this
        exact this
      obtain ⟨r0, r1, _⟩ := HCl.out w4 HK4.out
      rw [hml] at HSA ⊢
      clear HD3 N4 hm4 hml HBt HBk HT
      go_wp2_with fail
      go_region_with (go_at_call 10; refine (HE3.out _ _ (HK4.out.alloc _).drew (heap_alloc_new w4 _)).mono ?_; rintro e w5 ⟨v5, rfl, l5, k5⟩; obtain ⟨a5, c5, rfl, _⟩ := l5.slice; simp only [List.map_nil, List.length_nil] at l5 ⊢; have HK5 : Hid (Chg no wr w5) := (HK4.out.alloc _).drew.then k5; have HK45 : Hid (Chg no w4 w5) := ((Chg.refl no w4).alloc _).drew.then k5; clear l5 k5)
      all_goals
        obtain ⟨s0, s1, _⟩ := HCl.out w5 HK5.out
        clear r0 r1 HE3
        go_wp2_with fail
        refine (HE4.out _ _ (HK5.out.alloc _) (heap_alloc_new w5 _)).mono ?_
        rintro e w6 ⟨v6, rfl, l6, k6⟩
        obtain ⟨a6, c6, rfl, _⟩ := l6.slice
        simp only [List.map_nil, List.length_nil] at l6 ⊢
        have HK6 : Hid (Chg no wr w6) := (HK5.out.alloc _).then k6
        have HK46 : Hid (Chg no w4 w6) := (HK45.out.alloc _).then k6
        clear l6 k6 s0 s1 HE4
        obtain ⟨s0, s1, _⟩ := HCl.out w6 HK6.out
        go_wp2_with fail
        refine (HE5.out _ _ (HK6.out.alloc _) (heap_alloc_new w6 _)).mono ?_
        rintro e w7 ⟨v7, rfl, l7, k7⟩
        obtain ⟨a7, c7, rfl, _⟩ := l7.slice
        simp only [List.map_nil, List.length_nil] at l7 ⊢
        have HK7 : Hid (Chg no wr w7) := (HK6.out.alloc _).then k7
        have HK47 : Hid (Chg no w4 w7) := (HK46.out.alloc _).then k7
        clear l7 k7 s0 s1 HE5
        go_wp2_with fail
        refine (HF w7).mono ?_
        rintro e w8 ⟨rfl, k8⟩
        have HS8 := HSA.out w8 (HK47.out.then k8)
        have HK8 : Hid (Chg no w w8) := (HK.out.then HK7.out).then k8
        clear k8 HSA
        go_wp2_with fail
        refine HS8.mono ?_
        rintro e w9 ⟨rfl, k9⟩
        go_wp2
        go_ret
        exact ⟨rfl, (HK8.out.then k9).below⟩

theorem walk (w : World) (z c : Int) (w0 : (Lit.int .i64 z).wf = true) (w1 : (Lit.int .u8 c).wf = true) :
    Calls Try.prog 7 #[.int .i64 z, .int .u8 c] w fun e w' => e = .returned (.bool true) ∧ Below w.heap.size w w' := by
  by_cases hz : 1 ≤ z ∧ z ≤ 4
  · obtain ⟨Z, rfl⟩ := Int.eq_ofNat_of_zero_le (show 0 ≤ z by omega)
    exact late w Z c (by omega) (by omega) (bounds_u8 w1)
  · exact early w z c hz

theorem own : ownKnob Try.prog.godebug = none := by kernel_rfl
theorem laidOut : laidOutB Try.prog = true := by kernel_rfl

set_option maxRecDepth 100000 in
theorem lifted (os : Os) (started : os.Started) (H : Type) (enc : TypeId × Value → H) :
    ReturnsInHanded {} Try.checked os 7 .any (Rows.bucketFullSpec.pre6 enc Try.prog Try.f7 Rows.bucketFullRow.domain false) (Rows.bucketFullSpec.post enc Try.prog Try.f7 false true false false) := by
  refine returnsInHanded_of_change (C := Try.checked) own started (by kernel_rfl) Try.func7
    (ChangeSpec.witness6 (enc := enc) (C := Try.checked) false ⟨#[], #[.int .i64 0, .int .u8 0], []⟩ 8 (by kernel_rfl) (by kernel_rfl) (by kernel_rfl) (by kernel_rfl)) ?_
  intro W base args ds gs before hval0 hW hcnd _
  have hval : ∀ (j : Nat) t v, Try.f7.params[j]? = some t → args[j]? = some v → Value.okWide Try.prog W .any base t v := hval0
  have hW' := hW
  obtain ⟨p, q, hA0, hV, rfl, hfz, hnd⟩ := hW
  have hA : DataW.TrodAll enc Try.prog W 0 (fun _ => true) true Try.f7.params.toList args.toList ds p := hA0
  rw [Try.params7] at hA hval
  obtain ⟨v0, vs0, d0, ds0, p0, q0, hargs, rfl, rfl, h0, r0⟩ := trodAll_cons hA
  obtain ⟨v1, vs1, d1, ds1, p1, q1, rfl, rfl, rfl, h1, r1⟩ := trodAll_cons r0
  obtain ⟨rfl, rfl, rfl⟩ := trodAll_nil r1
  obtain rfl : args = #[v0, v1] := by cases args; simp_all
  obtain ⟨rfl, rfl⟩ := trodVars_none hV
  obtain ⟨a0, rfl, rfl, rfl, w0⟩ := open_int Try.underlying3 (hval 0 3 v0 rfl rfl) h0
  obtain ⟨a1, rfl, rfl, rfl, w1⟩ := open_int Try.underlying5 (hval 1 5 v1 rfl rfl) h1
  clear hA0 hval0
  refine (walk W a0 a1 w0 w1).mono fun e W' ⟨he, bel⟩ => ?_
  subst he
  exact ⟨_, rfl, _, _, _, [], _, [], hW', trodAll_mk1 (shut_bool Try.underlying4 _), (trodAll_cons_mk (shut_int Try.underlying3 w0) (trodAll_cons_mk (shut_int Try.underlying5 w1) trodAll_mk0)), rfl, bel.frame _, fun h => by cases h⟩

theorem over : Rows.bucketFullRow.holds Try.pinned (OpenSpec.ofChange Rows.bucketFullSpec) :=
  OpenClaim.holds_of_wide 7 Try.f7 rfl rfl rfl rfl rfl rfl rfl ⟨rfl, rfl, rfl, rfl, rfl⟩ rfl rfl rfl rfl rfl (by kernel_rfl) Try.func7 (by kernel_rfl)
    (of_decide_eq_true (by kernel_rfl)) (by unfold Func.isWrapper; first | (rw [if_pos (by decide +kernel)]; kernel_rfl) | (rw [if_neg (by decide +kernel)]; exact ⟨rfl, rfl⟩))
    (fun os started H enc _ => lifted os started H enc)

theorem proved : Rows.BucketFullSaid := over
end Go.Proofs.Ytlcbfdbnjohicaa.bucketFull
namespace Go.Proofs.Ytlcbfdbnjohicaa
theorem bucketFull_holds : Rows.BucketFullSaid := bucketFull.proved
#print axioms bucketFull_holds
end Go.Proofs.Ytlcbfdbnjohicaa
