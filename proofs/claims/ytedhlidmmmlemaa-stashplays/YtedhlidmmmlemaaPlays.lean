/-
  Proved: for all blocks and all operations the law StashPlays returns true; no condition.
-/
import Derived.Test.YtedhlidmmmlemaaTai
import Derived.Test.YtedhlidmmmlemaaArg
import Derived.Test.YtedhlidmmmlemaaFar
import Derived.Test.YtedhlidmmmlemaaRows
import Derived.Deep.CutBlock
import Derived.Deep.RegionHeldLaw
namespace Go.Proofs.Ytedhlidmmmlemaa.stashPlays
open Go.ChangeShapes Go.WideShapes Go.ChangeAt Go.RowKit Go.Proofs.Ytedhlidmmmlemaa.hp Go.Proofs.Ytedhlidmmmlemaa.st
set_option linter.unusedVariables false
set_option linter.unusedSimpArgs false

set_option maxRecDepth 100000 in
set_option maxHeartbeats 16000000 in
theorem walk (w : World) (a1 : Option Addr) (n c1 : Nat) (xs : List BV) (a2 : Option Addr) (m c2 : Nat) (O : Nat → OpA) (hX : xs.length = n ∧ Bks w (.slice a1 n c1) xs) (kx : n ≤ c1 ∧ c1 ≤ maxLen) (hO : OpsAt w a2 m O) (ko : m ≤ c2 ∧ c2 ≤ maxLen) :
    Calls Try.prog 3 #[.slice a1 n c1, .slice a2 m c2] w fun e w' => e = .returned (.bool true) ∧ Below w.heap.size w w' := by
  have HF := first_any
  obtain ⟨hn, hb⟩ := hX
  have HX : Hid (Bks w (.slice a1 n c1) xs) := hb
  have HL : Hid (xs.length = n) := hn
  have HO : Hid (OpsAt w a2 m O) := hO
  have HK : Hid (m ≤ c2 ∧ c2 ≤ maxLen) := ko
  have hmi : (n : Int) ≤ 9223372036854775807 := by have := kx.2; have := kx.1; unfold maxLen at *; omega
  have hmj : (m : Int) ≤ 9223372036854775807 := by have := ko.2; have := ko.1; unfold maxLen at *; omega
  clear hb hn hO kx ko
  go_enter Try.func3, Try.ntmps3
  go_wp2_with fail
  refine (HF w).mono ?_
  rintro e w1 ⟨rfl, k1⟩
  have HFew := few_any w1 (.slice a1 n c1) xs (HX.out.later k1)
  rw [HL.out] at HFew
  have K1 : Hid (Chg no w w1) := k1
  clear k1
  go_wp2_with fail
  refine HFew.mono ?_
  rintro e w2 ⟨b, rfl, hfew, rfl⟩
  clear HFew
  cases b
  case false =>
    go_wp2_with fail
    refine (HF _).mono ?_
    rintro e w4 ⟨rfl, k4⟩
    go_wp2
    go_ret
    exact ⟨rfl, (K1.out.then k4).below⟩
  have hn200 := hfew rfl
  clear hfew
  have HFo := fewo_any w2 a2 m c2 O (OpsAt.same HO.out K1.out) HK.out.1 HK.out.2
  go_wp2_with fail
  refine HFo.mono ?_
  rintro e w3 ⟨b, rfl, hfew, rfl⟩
  clear HFo
  cases b
  case false =>
    go_wp2_with fail
    refine (HF _).mono ?_
    rintro e w4 ⟨rfl, k4⟩
    go_wp2
    go_ret
    exact ⟨rfl, (K1.out.then k4).below⟩
  have hm200 := hfew rfl
  have i3 : (m : Int) ≤ 200 := by omega
  have i4 : (n : Int) ≤ 200 := by omega
  clear hfew hmi hmj
  have HN := new_any w3 (.slice a1 n c1) xs (HX.out.later K1.out) (by rw [HL.out]; omega)
  go_wp2_with fail
  refine HN.mono ?_
  rintro e w4 ⟨p, F, rfl, S4, hF4, k4⟩
  have HA0 : Hid (Alk w p w4.heap.size (newS (abs xs)).1 [] (newS (abs xs)).2 0 (w4.alloc (.cells #[.slice none 0 0, .int .i64 0] 32))) := alk_new S4 (fun k hk => by have := hF4 k hk; have := K1.out.size; omega) (K1.out.then k4)
  obtain ⟨SS, hSS⟩ : ∃ SS, newS (abs xs) = SS := ⟨_, rfl⟩
  have HSS : Hid (newS (abs xs) = SS) := hSS
  rw [hSS] at HA0
  obtain ⟨q, hq⟩ : ∃ q, w4.heap.size = q := ⟨_, rfl⟩
  rw [hq] at HA0
  clear HN S4 hF4 k4 hSS
  go_wp2_with fail
  go_loopw [7] (fun i wr => ∃ k : Nat, k ≤ n ∧ i = .int .i64 (k : Int) ∧ Alk w p q SS.1 (newS ((abs xs).take k)).1 SS.2 (newS ((abs xs).take k)).2 wr) (fun i _ => n - (intOf i).toNat)
  case atStart => exact ⟨0, by omega, rfl, by first | exact HA0.out | (rw [hq]; exact HA0.out)⟩
  case round =>
    clear HA0
    obtain ⟨k, hk, rfl, hA⟩ := hrel
    have HA : Hid (Alk w p q SS.1 (newS ((abs xs).take k)).1 SS.2 (newS ((abs xs).take k)).2 wr) := hA
    by_cases hkn : k < n
    · have hki : (k : Int) < n := by omega
      obtain ⟨y, ab, cb, rfl, e0, e1, hvv, hLd, hBy, hlt, hne⟩ := HX.out.at k (by rw [HL.out]; exact hkn)
      have HT := newS_take (abs xs) k (by rw [abs_len, HL.out]; exact hkn)
      rw [abs_getD] at HT
      obtain ⟨⟨i1, v1, zs⟩, hx1⟩ : ∃ X, xs.getD k dBV = X := ⟨_, rfl⟩
      rw [hx1] at e0 e1 hLd hBy HT
      simp only [BV.bk] at e0 e1 hLd hBy HT
      obtain ⟨l1, hl1⟩ : ∃ l, zs.length = l := ⟨_, rfl⟩
      rw [hl1] at e1 hLd
      obtain ⟨B, hB⟩ : ∃ B, decide (okB (i1, zs)) = B := ⟨_, rfl⟩
      have HCel : Hid (∀ W, Chg no w W → W.cell? (y.add (k * 2)) = some (.int .i64 i1) ∧ W.cell? ⟨(y.add (k * 2)).block, (y.add (k * 2)).off + 1, none⟩ = some (.slice ab l1 cb)) := fun W kW => ⟨kW.cell e0 (fun h => h), kW.cell e1 (fun h => h)⟩
      have HPut : Hid (∀ W, Chg no wr W → Calls Try.prog 11 #[pt q, bv i1 ab l1 cb] W fun e w' => e = .returned (.bool B) ∧ Alk w p q SS.1 (newS ((abs xs).take (k + 1))).1 SS.2 (newS ((abs xs).take (k + 1))).2 w') := by
        intro W kW
        have := (hA.same kW).rput i1 ab l1 cb zs hLd hBy hl1
        rw [hB] at this
        rw [HT]
        exact this
      obtain ⟨q0, q1⟩ := HCel.out wr hA.chg
      have hlt2 : (y.add (k * 2)).block < w.heap.size := hlt
      clear hx1 hLd hBy HT hl1 hB hA e0 e1 hvv hlt hne hlt2
      go_wp2_with fail
      (first
        | go_region_held_law (fun w' => w'.cell? (y.add (k * 2)) = some (.int .i64 i1) ∧ w'.cell? ⟨(y.add (k * 2)).block, (y.add (k * 2)).off + 1, none⟩ = some (.slice ab l1 cb)) (first | exact ⟨u0, u1⟩ | exact ⟨q0, q1⟩ | go_keep)
            ((go_at_call 11; refine (HPut.out _ ?_).mono ?_; exact (Chg.refl no wr).drew; rintro e w5 ⟨rfl, A5⟩; obtain ⟨u0, u1⟩ := HCel.out w5 A5.chg))
        | fail)
      all_goals go_wp2
      all_goals go_roundw
      all_goals first | exact ⟨k + 1, by omega, by go_num, A5⟩ | (simp [intOf]; omega)
    · obtain rfl : k = n := by omega
      have hki : (k : Int) ≤ k := by omega
      have HB0 : Hid (∃ L mo, Alk w p q L L mo mo wr) := by
        have h := HA.out
        rw [List.take_of_length_le (by rw [abs_len, HL.out]; omega), HSS.out] at h
        exact ⟨_, _, h⟩
      clear hA HA HSS HX HL
      go_wp2_with fail
      go_loopw [8] (fun i wr => ∃ (j : Nat) (L : List Bk) (mo : Nat), j ≤ m ∧ i = .int .i64 (j : Int) ∧ Alk w p q L L mo mo wr) (fun i _ => m - (intOf i).toNat)
      case atStart =>
        obtain ⟨L, mo, h⟩ := HB0.out
        exact ⟨0, L, mo, by omega, rfl, h⟩
      case round =>
        clear HB0
        obtain ⟨j, L, mo, hj, rfl, hA⟩ := hrel
        by_cases hjl : j < m
        · have hji : (j : Int) < m := by omega
          obtain ⟨x, rfl, e0, e1, e2, l2, b2⟩ := OpsAt.at HO.out hA.chg j hjl
          have l0 : Lies (Old w) w (.slice (O j).a (O j).d.length (O j).c) ((O j).d.map (Value.int .u8)) := by
            obtain ⟨_, _, _, _, _, l, _⟩ := HO.out j hjl
            exact l
          obtain ⟨⟨kind, id, ab, cb, zs⟩, hop⟩ : ∃ op, O j = op := ⟨_, rfl⟩
          rw [hop] at e0 e1 e2 l0 b2
          simp only at e0 e1 e2 l0 b2
          obtain ⟨zl, hzl⟩ : ∃ l, zs.length = l := ⟨_, rfl⟩
          rw [hzl] at e2 l0
          have HV : Hid (Lies (Old w) w (.slice ab zl cb) (zs.map (Value.int .u8)) ∧ Bytes zs ∧ zs.length = zl) := ⟨l0, b2, hzl⟩
          have hB := hA.box #[.int .i64 id, .slice ab zl cb] 36
          have hne : (x.add (j * 3)).block ≠ wr.heap.size := by
            have := World.block_lt_of_cell? wr _ e0
            omega
          obtain ⟨Q, hQ⟩ : ∃ Q, wr.heap.size = Q := ⟨_, rfl⟩
          have HE0 : Hid (∀ W, Chg no w W → W.cell? (x.add (j * 3)) = some (.int .i64 kind)) := by
            intro W k
            obtain ⟨x', ex, e, _⟩ := OpsAt.at HO.out k j hjl
            cases ex
            rw [hop] at e
            exact e
          have HB1 : Hid (Alb w p q L L mo mo Q (.cells #[.int .i64 id, .slice ab zl cb] 36 (0, 0)) (wr.alloc (.cells #[.int .i64 id, .slice ab zl cb] 36))) := by rw [← hQ]; exact hB
          obtain ⟨t0, t1, t2⟩ := HB1.out.cells
          have t3 := HE0.out _ HB1.out.chg
          simp only [hQ] at hne
          clear hop l0 b2 hzl l2 hA hB
          have HOK : Hid (okL L ∧ L.length ≤ mo ∧ mo ≤ 64) := HB1.out.ok
          have HLB : Hid (∀ b ∈ L, Bytes b.2) := HB1.out.bytes
          obtain ⟨wX, hwX⟩ : ∃ wX, wr.alloc (.cells #[.int .i64 id, .slice ab zl cb] 36) = wX := ⟨_, rfl⟩
          rw [hwX] at HB1 t0 t1 t2 t3
          go_upto_if 70 with fail
          try simp only [hwX]
          clear hwX
          · by_cases hk0 : kind = 0
            · subst hk0
              obtain ⟨B, hB⟩ : ∃ B, decide (okB (id, zs)) = B := ⟨_, rfl⟩
              have HPut : Hid (∀ W, Chg no wX W → Calls Try.prog 12 #[pt p, bv id ab zl cb] W fun e w' => e = .returned (.bool B) ∧ Alb w p q (putA L (id, zs)) L (mostA L mo (id, zs)) mo Q (.cells #[.int .i64 id, .slice ab zl cb] 36 (0, 0)) w') := by
                intro W kW
                have := (HB1.out.same kW).put id ab zl cb zs HV.out.1 HV.out.2.1 HV.out.2.2
                rw [hB] at this
                exact this
              have HRput : Hid (∀ W, Alb w p q (putA L (id, zs)) L (mostA L mo (id, zs)) mo Q (.cells #[.int .i64 id, .slice ab zl cb] 36 (0, 0)) W → Calls Try.prog 11 #[pt q, bv id ab zl cb] W fun e w' => e = .returned (.bool B) ∧ Alb w p q (putA L (id, zs)) (putA L (id, zs)) (mostA L mo (id, zs)) (mostA L mo (id, zs)) Q (.cells #[.int .i64 id, .slice ab zl cb] 36 (0, 0)) w') := by
                intro W hW
                have := hW.rput id ab zl cb zs HV.out.1 HV.out.2.1 HV.out.2.2
                rw [hB] at this
                exact this
              have hbb : (B == B) = true := by simp
              obtain ⟨L2, hL2⟩ : ∃ L2, putA L (id, zs) = L2 := ⟨_, rfl⟩
              obtain ⟨m2, hm2⟩ : ∃ m2, mostA L mo (id, zs) = m2 := ⟨_, rfl⟩
              rw [hL2, hm2] at HPut HRput
              clear hB hL2 hm2 HB1 HOK HLB HV HE0 HO HK
              go_wp2_with fail
              (first
                | go_region_held_law (fun w' => w'.cell? ⟨Q, 0, none⟩ = some (.int .i64 id) ∧ w'.cell? ⟨Q, 1, none⟩ = some (.slice ab zl cb)) (first | exact ⟨v0, v1⟩ | exact ⟨u0, u1⟩ | exact ⟨t0, t1⟩ | go_keep)
                    (first
                      | (go_at_call 12; refine (HPut.out _ ?_).mono ?_; exact (Chg.refl no wX).drew; rintro e w5 ⟨rfl, A5⟩; obtain ⟨u0, u1, u2⟩ := A5.cells)
                      | (go_at_call 11; refine (HRput.out _ A5).mono ?_; rintro e w6 ⟨rfl, A6⟩; obtain ⟨v0, v1, v2⟩ := A6.cells))
                | fail)
              all_goals (
                have HA6 : Hid (∃ L' m', Alb w p q L' L' m' m' Q (.cells #[.int .i64 id, .slice ab zl cb] 36 (0, 0)) w6) := ⟨_, _, A6⟩
                clear A5 A6
                obtain ⟨L', m', hA⟩ := HA6.out
                clear HA6
                obtain ⟨n2, hn2⟩ : ∃ n2, L'.length = n2 := ⟨_, rfl⟩
                obtain ⟨P, hP⟩ : ∃ P, posL L' id = P := ⟨_, rfl⟩
                obtain ⟨H2, hH⟩ : ∃ H2, hasL L' id = H2 := ⟨_, rfl⟩
                have HH : Hid (hasL L' id = H2) := hH
                have HFd := hA.find id
                have HG := hA.get id
                rw [hH] at HG
                have hbs : Bytes (getL L' id).2 := by
                  by_cases hh : hasL L' id = true
                  · obtain ⟨z1, z2⟩ := has_at hh
                    have e : getL L' id = L'.getD (posL L' id) dBk := by unfold getL; rw [if_pos hh]
                    rw [e]
                    exact hA.bytes _ (getD_mem z1)
                  · have e : getL L' id = dBk := by unfold getL; rw [if_neg hh]
                    rw [e]
                    intro b hb
                    simp [dBk] at hb
                obtain ⟨gd, hgd⟩ : ∃ gd, (getL L' id).2 = gd := ⟨_, rfl⟩
                rw [hgd] at HG hbs
                obtain ⟨gl, hgl⟩ : ∃ gl, gd.length = gl := ⟨_, rfl⟩
                simp only [hgl] at HG
                have HBS : Hid (Bytes gd ∧ gd.length = gl ∧ (getL L' id).2 = gd ∧ posL L' id = P ∧ L'.length = n2) := ⟨hbs, hgl, hgd, hP, hn2⟩
                obtain ⟨x0, x1, x2⟩ := hA.cells
                clear hA hbs hgl hgd hP hn2
                cases H2
                case false =>
                  have hf : findL L' id = -1 := by unfold findL; rw [hH]; rfl
                  have hge : decide ((-1 : Int) ≥ 0) = false := by decide
                  rw [hf] at HFd
                  clear hf hH
                  go_wp2_with fail
                  refine HFd.mono ?_
                  rintro e w10 ⟨rfl, rfl⟩
                  clear HFd
                  go_wp2_with fail
                  refine HG.mono ?_
                  rintro e w11 ⟨ga, gb, rfl, lG, A11, k11⟩
                  have HA11 : Hid (Alb w p q L' L' m' m' Q (.cells #[.int .i64 id, .slice ab zl cb] 36 (0, 0)) w11) := A11
                  have H18 : Hid _ := A11.tHas id _ HH.out
                  have H19 : Hid _ := A11.tLen n2 HBS.out.2.2.2.2
                  have H20 : Hid _ := A11.tMost
                  have H22 : Hid _ := A11.tIds n2 HBS.out.2.2.2.2
                  obtain ⟨g0, gc, ys, s1, s2, s3, s4, s5, s6, s7⟩ := A11.shows
                  rw [HBS.out.2.2.2.2] at s2 s3 s4 s7
                  have H26 : Hid _ := A11.tAll g0 n2 gc ys s1 (fun W k => (s7 W k).1)
                  have hni3 : (n2 : Int) ≤ 64 := by omega
                  clear HG x0 x1 x2 k11
                  have HCl : Hid (∀ W, Chg no w11 W → W.cell? ⟨Q, 0, none⟩ = some (.int .i64 id) ∧ W.cell? ⟨q, 0, none⟩ = some (.slice g0 n2 gc) ∧ W.cell? ⟨q, 1, none⟩ = some (.int .i64 (m' : Int))) := by
                    intro W k
                    obtain ⟨_, c1, c2, _⟩ := s7 W k
                    exact ⟨(HA11.out.same k).cells.1, c1, c2⟩
                  clear lG A11 s1 s2 s3 s4 s5 s6 s7 HBS HH
                  go_wp2_with fail
                  obtain ⟨pK, hpK⟩ : ∃ pK : World → Prop, ∀ w', pK w' ↔ Chg no w11 w' := ⟨_, fun _ => Iff.rfl⟩
                  have xK0 : ∀ x' : far.InC pK, x'.w.cell? ⟨Q, 0, none⟩ = some (.int .i64 id) := fun x => (HCl.out _ ((hpK _).1 x.h)).1
                  have xK1 : ∀ x' : far.InC pK, x'.w.cell? ⟨q, 0, none⟩ = some (.slice g0 n2 gc) := fun x => (HCl.out _ ((hpK _).1 x.h)).2.1
                  have xK2 : ∀ x' : far.InC pK, x'.w.cell? ⟨q, 1, none⟩ = some (.int .i64 (m' : Int)) := fun x => (HCl.out _ ((hpK _).1 x.h)).2.2
                  have iK : Nonempty (far.InC pK) := ⟨⟨w11, (hpK _).2 (Chg.refl no w11)⟩⟩
                  have HpK : Hid (∀ w', pK w' ↔ Chg no w11 w') := hpK
                  have Y0 : Chg no w11 w11.drew := (Chg.refl no w11).drew
                  clear hpK HCl
                  simp only [List.append_eq, List.cons_append, List.nil_append]
                  refine far.region_farM (fun κ w' => pK w') [12, 28, 34, 44, 53, 55, 56, 61, 62, 67] (by kernel_rfl) (by kernel_rfl) ((HpK.out _).2 Y0) ?_
                  intro L e1' e2' e3'
                  refine far.farO_stretch pK 12 0 10 e1' e2' e3' (by kernel_rfl) (by kernel_rfl) (fun κ w' hk1 hk2 hC => hC) ?_
                  simp only [List.take_succ_cons, List.take_zero, List.drop_succ_cons, List.drop_zero, Nat.reduceAdd]
                  repeat (go_big_quiet_step (fail))
                  refine wpQuiet_nil ?_
                  refine far.farO_enter e1' e2' 0 rfl rfl 18 #[pt p, .int .i64 id] (by kernel_rfl) (by kernel_rfl) ?_
                  refine (H18.out _ Y0).mono ?_
                  rintro e w12 ⟨rfl, k12⟩
                  refine ⟨_, rfl, (HpK.out _).2 k12, ?_⟩
                  simp only [Act.put, List.setIfInBounds_toArray, List.set_cons_succ, List.set_cons_zero, Nat.reduceAdd]
                  refine far.farO_stretch pK 15 0 10 e1' e2' e3' (by kernel_rfl) (by kernel_rfl) (fun κ w' hk1 hk2 hC => hC) ?_
                  simp only [List.take_succ_cons, List.take_zero, List.drop_succ_cons, List.drop_zero, Nat.reduceAdd]
                  repeat (go_big_quiet_step (fail))
                  refine wpQuiet_nil ?_
                  refine far.farO_over (by kernel_rfl) (by rw [e1']; exact (HpK.out _).2 k12) ?_
                  simp only [Act.put, List.setIfInBounds_toArray, List.set_cons_succ, List.set_cons_zero, Nat.reduceAdd]
                  refine far.farO_stretch pK 5 0 10 e1' e2' e3' (by kernel_rfl) (by kernel_rfl) (fun κ w' hk1 hk2 hC => hC) ?_
                  simp only [List.take_succ_cons, List.take_zero, List.drop_succ_cons, List.drop_zero, Nat.reduceAdd]
                  repeat (go_big_quiet_step (fail))
                  refine wpQuiet_nil ?_
                  refine far.farO_enter e1' e2' 2 rfl rfl 19 #[pt p] (by kernel_rfl) (by kernel_rfl) ?_
                  refine (H19.out _ k12).mono ?_
                  rintro e w14 ⟨rfl, rfl⟩
                  refine ⟨_, rfl, (HpK.out _).2 k12, ?_⟩
                  simp only [Act.put, List.setIfInBounds_toArray, List.set_cons_succ, List.set_cons_zero, Nat.reduceAdd]
                  refine far.farO_stretch pK 9 0 10 e1' e2' e3' (by kernel_rfl) (by kernel_rfl) (fun κ w' hk1 hk2 hC => hC) ?_
                  simp only [List.take_succ_cons, List.take_zero, List.drop_succ_cons, List.drop_zero, Nat.reduceAdd]
                  repeat (go_big_quiet_step (fail))
                  refine wpQuiet_nil ?_
                  refine far.farO_enter e1' e2' 3 rfl rfl 20 #[pt p] (by kernel_rfl) (by kernel_rfl) ?_
                  refine (H20.out _ k12).mono ?_
                  rintro e w15 ⟨rfl, rfl⟩
                  refine ⟨_, rfl, (HpK.out _).2 k12, ?_⟩
                  simp only [Act.put, List.setIfInBounds_toArray, List.set_cons_succ, List.set_cons_zero, Nat.reduceAdd]
                  refine far.farO_stretch pK 8 0 10 e1' e2' e3' (by kernel_rfl) (by kernel_rfl) (fun κ w' hk1 hk2 hC => hC) ?_
                  simp only [List.take_succ_cons, List.take_zero, List.drop_succ_cons, List.drop_zero, Nat.reduceAdd]
                  repeat (go_big_quiet_step (fail))
                  refine wpQuiet_nil ?_
                  refine far.farO_enter e1' e2' 4 rfl rfl 22 #[pt p] (by kernel_rfl) (by kernel_rfl) ?_
                  refine (H22.out _ k12).mono ?_
                  rintro e w16 ⟨ia, ic, rfl, k16, h23⟩
                  refine ⟨_, rfl, (HpK.out _).2 k16, ?_⟩
                  simp only [Act.put, List.setIfInBounds_toArray, List.set_cons_succ, List.set_cons_zero, Nat.reduceAdd]
                  refine far.farO_stretch pK 1 0 10 e1' e2' e3' (by kernel_rfl) (by kernel_rfl) (fun κ w' hk1 hk2 hC => hC) ?_
                  simp only [List.take_succ_cons, List.take_zero, List.drop_succ_cons, List.drop_zero, Nat.reduceAdd]
                  repeat (go_big_quiet_step (fail))
                  refine wpQuiet_nil ?_
                  refine far.farO_enter e1' e2' 5 rfl rfl 23 #[pt q] (by kernel_rfl) (by kernel_rfl) ?_
                  refine (h23).mono ?_
                  rintro e w17 ⟨ja, jc, rfl, k17, h21⟩
                  refine ⟨_, rfl, (HpK.out _).2 k17, ?_⟩
                  simp only [Act.put, List.setIfInBounds_toArray, List.set_cons_succ, List.set_cons_zero, Nat.reduceAdd]
                  refine far.farO_enter e1' e2' 6 rfl rfl 21 #[.slice ia n2 ic, .slice ja n2 jc] (by kernel_rfl) (by kernel_rfl) ?_
                  refine (h21).mono ?_
                  rintro e w18 ⟨rfl, k18⟩
                  refine ⟨_, rfl, (HpK.out _).2 k18, ?_⟩
                  simp only [Act.put, List.setIfInBounds_toArray, List.set_cons_succ, List.set_cons_zero, Nat.reduceAdd]
                  refine far.farO_stretch pK 4 0 10 e1' e2' e3' (by kernel_rfl) (by kernel_rfl) (fun κ w' hk1 hk2 hC => hC) ?_
                  simp only [List.take_succ_cons, List.take_zero, List.drop_succ_cons, List.drop_zero, Nat.reduceAdd]
                  repeat (go_big_quiet_step (fail))
                  refine wpQuiet_nil ?_
                  refine far.farO_enter e1' e2' 7 rfl rfl 26 #[pt p] (by kernel_rfl) (by kernel_rfl) ?_
                  refine (H26.out _ k18).mono ?_
                  rintro e w19 ⟨la, ll, lc, rfl, k19, h25⟩
                  refine ⟨_, rfl, (HpK.out _).2 k19, ?_⟩
                  simp only [Act.put, List.setIfInBounds_toArray, List.set_cons_succ, List.set_cons_zero, Nat.reduceAdd]
                  refine far.farO_enter e1' e2' 8 rfl rfl 25 #[.slice la ll lc] (by kernel_rfl) (by kernel_rfl) ?_
                  refine (h25).mono ?_
                  rintro e w20 ⟨lv, rfl, k20, h24⟩
                  refine ⟨_, rfl, (HpK.out _).2 k20, ?_⟩
                  simp only [Act.put, List.setIfInBounds_toArray, List.set_cons_succ, List.set_cons_zero, Nat.reduceAdd]
                  refine far.farO_stretch pK 4 0 10 e1' e2' e3' (by kernel_rfl) (by kernel_rfl) (fun κ w' hk1 hk2 hC => hC) ?_
                  simp only [List.take_succ_cons, List.take_zero, List.drop_succ_cons, List.drop_zero, Nat.reduceAdd]
                  repeat (go_big_quiet_step (fail))
                  refine wpQuiet_nil ?_
                  refine far.farO_enter e1' e2' 9 rfl rfl 24 #[lv, .slice g0 n2 gc] (by kernel_rfl) (by kernel_rfl) ?_
                  refine (h24).mono ?_
                  rintro e w21 ⟨rfl, k21⟩
                  refine ⟨_, rfl, (HpK.out _).2 k21, ?_⟩
                  simp only [Act.put, List.setIfInBounds_toArray, List.set_cons_succ, List.set_cons_zero, Nat.reduceAdd]
                  refine far.farO_stretch pK 2 0 10 e1' e2' e3' (by kernel_rfl) (by kernel_rfl) (fun κ w' hk1 hk2 hC => hC) ?_
                  simp only [List.take_succ_cons, List.take_zero, List.drop_succ_cons, List.drop_zero, Nat.reduceAdd]
                  repeat (go_big_quiet_step (fail))
                  refine wpQuiet_nil ?_
                  refine far.farO_nil ?_
                  go_wp2
                  go_roundw
                  case rel => exact ⟨j + 1, L', m', by omega, by go_num, HA11.out.drop.same k21⟩
                  case measure => simp [intOf]; omega
                case true =>
                  have hf : findL L' id = (P : Int) := by unfold findL; rw [hH, if_pos rfl, HBS.out.2.2.2.1]
                  have hge : decide ((P : Int) ≥ 0) = true := by simp
                  rw [hf] at HFd
                  clear hf hH
                  go_wp2_with fail
                  refine HFd.mono ?_
                  rintro e w10 ⟨rfl, rfl⟩
                  clear HFd
                  go_wp2_with fail
                  refine HG.mono ?_
                  rintro e w11 ⟨ga, gb, rfl, lG, A11, k11⟩
                  have HA11 : Hid (Alb w p q L' L' m' m' Q (.cells #[.int .i64 id, .slice ab zl cb] 36 (0, 0)) w11) := A11
                  have H18 : Hid _ := A11.tHas id _ HH.out
                  have H19 : Hid _ := A11.tLen n2 HBS.out.2.2.2.2
                  have H20 : Hid _ := A11.tMost
                  have H22 : Hid _ := A11.tIds n2 HBS.out.2.2.2.2
                  obtain ⟨g0, gc, ys, s1, s2, s3, s4, s5, s6, s7⟩ := A11.shows
                  rw [HBS.out.2.2.2.2] at s2 s3 s4 s7
                  have H26 : Hid _ := A11.tAll g0 n2 gc ys s1 (fun W k => (s7 W k).1)
                  have hni3 : (n2 : Int) ≤ 64 := by omega
                  clear HG x0 x1 x2 k11
                  obtain ⟨hbk, _⟩ := s7 w11 (Chg.refl no w11)
                  have hpl : P < n2 := by have := (has_at HH.out).1; rw [HBS.out.2.2.2.1, HBS.out.2.2.2.2] at this; exact this
                  obtain ⟨y, ab2, cb2, rfl, e5, e6, _, l6, b6, _, _⟩ := hbk.at P (by rw [s2]; exact hpl)
                  have hdd : (ys.getD P dBV).d = gd := by
                    have e : getL L' id = L'.getD (posL L' id) dBk := by unfold getL; rw [if_pos HH.out]
                    rw [← HBS.out.2.2.1, e, HBS.out.2.2.2.1, ← s1, abs_getD]
                    rfl
                  rw [hdd] at e6 l6
                  rw [HBS.out.2.1] at e6 l6
                  have H15 : Hid (∀ W, Chg no w11 W → Calls Try.prog 15 #[.slice ga gl gb, .slice ab2 gl cb2] W fun e w' => e = .returned (.bool true) ∧ w' = W) := by
                    intro W k
                    have := bytes_any (Lies.later lG k) (Lies.later l6 k) HBS.out.1 HBS.out.1
                    rw [decide_eq_true (rfl : gd = gd)] at this
                    exact this
                  have hpi : (P : Int) < (n2 : Int) := by omega
                  have hp0 : (0 : Int) ≤ (P : Int) := by omega
                  have tn : ((P : Int)).toNat = P := by omega
                  have HCl : Hid (∀ W, Chg no w11 W → W.cell? ⟨Q, 0, none⟩ = some (.int .i64 id) ∧ W.cell? ⟨q, 0, none⟩ = some (.slice (some y) n2 gc) ∧ W.cell? ⟨q, 1, none⟩ = some (.int .i64 (m' : Int)) ∧ W.cell? ⟨(y.add (P * 2)).block, (y.add (P * 2)).off + 1, none⟩ = some (.slice ab2 gl cb2)) := by
                    intro W k
                    obtain ⟨_, c1, c2, _⟩ := s7 W k
                    exact ⟨(HA11.out.same k).cells.1, c1, c2, k.cell e6 (fun h => h)⟩
                  clear hdd l6 b6 e5 e6 hbk hpl
                  clear lG A11 s1 s2 s3 s4 s5 s6 s7 HBS HH
                  go_wp2_with fail
                  obtain ⟨pK, hpK⟩ : ∃ pK : World → Prop, ∀ w', pK w' ↔ Chg no w11 w' := ⟨_, fun _ => Iff.rfl⟩
                  have xK0 : ∀ x' : far.InC pK, x'.w.cell? ⟨Q, 0, none⟩ = some (.int .i64 id) := fun x => (HCl.out _ ((hpK _).1 x.h)).1
                  have xK1 : ∀ x' : far.InC pK, x'.w.cell? ⟨q, 0, none⟩ = some (.slice (some y) n2 gc) := fun x => (HCl.out _ ((hpK _).1 x.h)).2.1
                  have xK2 : ∀ x' : far.InC pK, x'.w.cell? ⟨q, 1, none⟩ = some (.int .i64 (m' : Int)) := fun x => (HCl.out _ ((hpK _).1 x.h)).2.2.1
                  have xK3 : ∀ x' : far.InC pK, x'.w.cell? ⟨(y.add (P * 2)).block, (y.add (P * 2)).off + 1, none⟩ = some (.slice ab2 gl cb2) := fun x => (HCl.out _ ((hpK _).1 x.h)).2.2.2
                  have iK : Nonempty (far.InC pK) := ⟨⟨w11, (hpK _).2 (Chg.refl no w11)⟩⟩
                  have HpK : Hid (∀ w', pK w' ↔ Chg no w11 w') := hpK
                  have Y0 : Chg no w11 w11.drew := (Chg.refl no w11).drew
                  clear hpK HCl
                  simp only [List.append_eq, List.cons_append, List.nil_append]
                  refine far.region_farM (fun κ w' => pK w') [12, 28, 34, 44, 53, 55, 56, 61, 62, 67] (by kernel_rfl) (by kernel_rfl) ((HpK.out _).2 Y0) ?_
                  intro L e1' e2' e3'
                  refine far.farO_stretch pK 12 0 10 e1' e2' e3' (by kernel_rfl) (by kernel_rfl) (fun κ w' hk1 hk2 hC => hC) ?_
                  simp only [List.take_succ_cons, List.take_zero, List.drop_succ_cons, List.drop_zero, Nat.reduceAdd]
                  repeat (go_big_quiet_step (fail))
                  refine wpQuiet_nil ?_
                  refine far.farO_enter e1' e2' 0 rfl rfl 18 #[pt p, .int .i64 id] (by kernel_rfl) (by kernel_rfl) ?_
                  refine (H18.out _ Y0).mono ?_
                  rintro e w12 ⟨rfl, k12⟩
                  refine ⟨_, rfl, (HpK.out _).2 k12, ?_⟩
                  simp only [Act.put, List.setIfInBounds_toArray, List.set_cons_succ, List.set_cons_zero, Nat.reduceAdd]
                  refine far.farO_stretch pK 15 0 10 e1' e2' e3' (by kernel_rfl) (by kernel_rfl) (fun κ w' hk1 hk2 hC => hC) ?_
                  simp only [List.take_succ_cons, List.take_zero, List.drop_succ_cons, List.drop_zero, Nat.reduceAdd]
                  repeat (go_big_quiet_step (fail))
                  refine wpQuiet_nil ?_
                  refine far.farO_enter e1' e2' 1 rfl rfl 15 #[.slice ga gl gb, .slice ab2 gl cb2] (by kernel_rfl) (by kernel_rfl) ?_
                  refine (H15.out _ k12).mono ?_
                  rintro e w13 ⟨rfl, rfl⟩
                  refine ⟨_, rfl, (HpK.out _).2 k12, ?_⟩
                  simp only [Act.put, List.setIfInBounds_toArray, List.set_cons_succ, List.set_cons_zero, Nat.reduceAdd]
                  refine far.farO_stretch pK 5 0 10 e1' e2' e3' (by kernel_rfl) (by kernel_rfl) (fun κ w' hk1 hk2 hC => hC) ?_
                  simp only [List.take_succ_cons, List.take_zero, List.drop_succ_cons, List.drop_zero, Nat.reduceAdd]
                  repeat (go_big_quiet_step (fail))
                  refine wpQuiet_nil ?_
                  refine far.farO_enter e1' e2' 2 rfl rfl 19 #[pt p] (by kernel_rfl) (by kernel_rfl) ?_
                  refine (H19.out _ k12).mono ?_
                  rintro e w14 ⟨rfl, rfl⟩
                  refine ⟨_, rfl, (HpK.out _).2 k12, ?_⟩
                  simp only [Act.put, List.setIfInBounds_toArray, List.set_cons_succ, List.set_cons_zero, Nat.reduceAdd]
                  refine far.farO_stretch pK 9 0 10 e1' e2' e3' (by kernel_rfl) (by kernel_rfl) (fun κ w' hk1 hk2 hC => hC) ?_
                  simp only [List.take_succ_cons, List.take_zero, List.drop_succ_cons, List.drop_zero, Nat.reduceAdd]
                  repeat (go_big_quiet_step (fail))
                  refine wpQuiet_nil ?_
                  refine far.farO_enter e1' e2' 3 rfl rfl 20 #[pt p] (by kernel_rfl) (by kernel_rfl) ?_
                  refine (H20.out _ k12).mono ?_
                  rintro e w15 ⟨rfl, rfl⟩
                  refine ⟨_, rfl, (HpK.out _).2 k12, ?_⟩
                  simp only [Act.put, List.setIfInBounds_toArray, List.set_cons_succ, List.set_cons_zero, Nat.reduceAdd]
                  refine far.farO_stretch pK 8 0 10 e1' e2' e3' (by kernel_rfl) (by kernel_rfl) (fun κ w' hk1 hk2 hC => hC) ?_
                  simp only [List.take_succ_cons, List.take_zero, List.drop_succ_cons, List.drop_zero, Nat.reduceAdd]
                  repeat (go_big_quiet_step (fail))
                  refine wpQuiet_nil ?_
                  refine far.farO_enter e1' e2' 4 rfl rfl 22 #[pt p] (by kernel_rfl) (by kernel_rfl) ?_
                  refine (H22.out _ k12).mono ?_
                  rintro e w16 ⟨ia, ic, rfl, k16, h23⟩
                  refine ⟨_, rfl, (HpK.out _).2 k16, ?_⟩
                  simp only [Act.put, List.setIfInBounds_toArray, List.set_cons_succ, List.set_cons_zero, Nat.reduceAdd]
                  refine far.farO_stretch pK 1 0 10 e1' e2' e3' (by kernel_rfl) (by kernel_rfl) (fun κ w' hk1 hk2 hC => hC) ?_
                  simp only [List.take_succ_cons, List.take_zero, List.drop_succ_cons, List.drop_zero, Nat.reduceAdd]
                  repeat (go_big_quiet_step (fail))
                  refine wpQuiet_nil ?_
                  refine far.farO_enter e1' e2' 5 rfl rfl 23 #[pt q] (by kernel_rfl) (by kernel_rfl) ?_
                  refine (h23).mono ?_
                  rintro e w17 ⟨ja, jc, rfl, k17, h21⟩
                  refine ⟨_, rfl, (HpK.out _).2 k17, ?_⟩
                  simp only [Act.put, List.setIfInBounds_toArray, List.set_cons_succ, List.set_cons_zero, Nat.reduceAdd]
                  refine far.farO_enter e1' e2' 6 rfl rfl 21 #[.slice ia n2 ic, .slice ja n2 jc] (by kernel_rfl) (by kernel_rfl) ?_
                  refine (h21).mono ?_
                  rintro e w18 ⟨rfl, k18⟩
                  refine ⟨_, rfl, (HpK.out _).2 k18, ?_⟩
                  simp only [Act.put, List.setIfInBounds_toArray, List.set_cons_succ, List.set_cons_zero, Nat.reduceAdd]
                  refine far.farO_stretch pK 4 0 10 e1' e2' e3' (by kernel_rfl) (by kernel_rfl) (fun κ w' hk1 hk2 hC => hC) ?_
                  simp only [List.take_succ_cons, List.take_zero, List.drop_succ_cons, List.drop_zero, Nat.reduceAdd]
                  repeat (go_big_quiet_step (fail))
                  refine wpQuiet_nil ?_
                  refine far.farO_enter e1' e2' 7 rfl rfl 26 #[pt p] (by kernel_rfl) (by kernel_rfl) ?_
                  refine (H26.out _ k18).mono ?_
                  rintro e w19 ⟨la, ll, lc, rfl, k19, h25⟩
                  refine ⟨_, rfl, (HpK.out _).2 k19, ?_⟩
                  simp only [Act.put, List.setIfInBounds_toArray, List.set_cons_succ, List.set_cons_zero, Nat.reduceAdd]
                  refine far.farO_enter e1' e2' 8 rfl rfl 25 #[.slice la ll lc] (by kernel_rfl) (by kernel_rfl) ?_
                  refine (h25).mono ?_
                  rintro e w20 ⟨lv, rfl, k20, h24⟩
                  refine ⟨_, rfl, (HpK.out _).2 k20, ?_⟩
                  simp only [Act.put, List.setIfInBounds_toArray, List.set_cons_succ, List.set_cons_zero, Nat.reduceAdd]
                  refine far.farO_stretch pK 4 0 10 e1' e2' e3' (by kernel_rfl) (by kernel_rfl) (fun κ w' hk1 hk2 hC => hC) ?_
                  simp only [List.take_succ_cons, List.take_zero, List.drop_succ_cons, List.drop_zero, Nat.reduceAdd]
                  repeat (go_big_quiet_step (fail))
                  refine wpQuiet_nil ?_
                  refine far.farO_enter e1' e2' 9 rfl rfl 24 #[lv, .slice (some y) n2 gc] (by kernel_rfl) (by kernel_rfl) ?_
                  refine (h24).mono ?_
                  rintro e w21 ⟨rfl, k21⟩
                  refine ⟨_, rfl, (HpK.out _).2 k21, ?_⟩
                  simp only [Act.put, List.setIfInBounds_toArray, List.set_cons_succ, List.set_cons_zero, Nat.reduceAdd]
                  refine far.farO_stretch pK 2 0 10 e1' e2' e3' (by kernel_rfl) (by kernel_rfl) (fun κ w' hk1 hk2 hC => hC) ?_
                  simp only [List.take_succ_cons, List.take_zero, List.drop_succ_cons, List.drop_zero, Nat.reduceAdd]
                  repeat (go_big_quiet_step (fail))
                  refine wpQuiet_nil ?_
                  refine far.farO_nil ?_
                  go_wp2
                  go_roundw
                  case rel => exact ⟨j + 1, L', m', by omega, by go_num, HA11.out.drop.same k21⟩
                  case measure => simp [intOf]; omega)
            · have hkb : (kind == 0) = false := by simpa using hk0
              by_cases hk1 : kind = 1
              · subst hk1
                have HT := HB1.out.takes id
                obtain ⟨H, hH⟩ : ∃ H, hasL L id = H := ⟨_, rfl⟩
                have hgb : Bytes (getL L id).2 := by
                  by_cases hh : hasL L id = true
                  · obtain ⟨z1, z2⟩ := has_at hh
                    have e : getL L id = L.getD (posL L id) dBk := by unfold getL; rw [if_pos hh]
                    rw [e]
                    exact HLB.out _ (getD_mem z1)
                  · have e : getL L id = dBk := by unfold getL; rw [if_neg hh]
                    rw [e]
                    intro b hb
                    simp [dBk] at hb
                rw [hH] at HT
                obtain ⟨⟨gi, gd⟩, hG⟩ : ∃ G, getL L id = G := ⟨_, rfl⟩
                rw [hG] at HT hgb
                simp only at HT hgb
                obtain ⟨gl, hgl⟩ : ∃ gl, gd.length = gl := ⟨_, rfl⟩
                simp only [hgl] at HT
                have HBy : Hid (Bytes gd) := hgb
                have hHH : (H == H) = true := by simp
                have hii : (gi == gi) = true := by simp
                clear hH hG hgl hgb HB1 HOK HLB HV HE0 HO HK hk0
                go_wp2_with fail
                refine HT.mono ?_
                rintro e w5 ⟨a5, c5, rfl, q5, HT2⟩
                obtain ⟨u0, _⟩ := row_cell (xs := [_, _]) q5 0 _ rfl
                have hQ5 := lt_of_block q5
                have hQne : Q ≠ w5.heap.size := by omega
                have HT3 := HT2 (w5.alloc (.cells #[.int .i64 gi, .slice a5 gl c5] 36)) ((Chg.refl no w5).alloc _)
                have hb5 := heap_alloc_new w5 (.cells #[.int .i64 gi, .slice a5 gl c5] 36)
                clear HT HT2 q5
                go_wp2_with fail
                refine HT3.mono ?_
                rintro e w6 ⟨a6, c6, rfl, l1, l2, A6, hkp⟩
                have b6 := hkp _ _ (Nat.le_refl _) hb5
                have hb6 := lt_of_block b6
                obtain ⟨v0, _⟩ := row_cell (xs := [_, _]) b6 0 _ rfl
                obtain ⟨v1, _⟩ := row_cell (xs := [_, _]) b6 1 _ rfl
                have hne6 : w5.heap.size ≠ w6.heap.size := by omega
                have k6 := (Chg.refl no w6).alloc (.cells #[.int .i64 gi, .slice a6 gl c6] 37)
                have HBs := bytes_any (Lies.later l1 k6) (Lies.later l2 k6) HBy.out HBy.out
                rw [decide_eq_true (rfl : gd = gd)] at HBs
                have HA6 : Hid (∃ L' m', Alb w p q L' L' m' m' Q (.cells #[.int .i64 id, .slice ab zl cb] 36 (0, 0)) (w6.alloc (.cells #[.int .i64 gi, .slice a6 gl c6] 37))) := ⟨_, _, A6.same k6⟩
                clear HT3 l1 l2 A6 hkp k6 hb5 b6
                go_wp2_with fail
                refine HBs.mono ?_
                rintro e w7 ⟨rfl, rfl⟩
                obtain ⟨L', m', hA⟩ := HA6.out
                clear HA6
                obtain ⟨n2, hn2⟩ : ∃ n2, L'.length = n2 := ⟨_, rfl⟩
                obtain ⟨P, hP⟩ : ∃ P, posL L' id = P := ⟨_, rfl⟩
                obtain ⟨H2, hH⟩ : ∃ H2, hasL L' id = H2 := ⟨_, rfl⟩
                have HH : Hid (hasL L' id = H2) := hH
                have HFd := hA.find id
                have HG := hA.get id
                rw [hH] at HG
                have hbs : Bytes (getL L' id).2 := by
                  by_cases hh : hasL L' id = true
                  · obtain ⟨z1, z2⟩ := has_at hh
                    have e : getL L' id = L'.getD (posL L' id) dBk := by unfold getL; rw [if_pos hh]
                    rw [e]
                    exact hA.bytes _ (getD_mem z1)
                  · have e : getL L' id = dBk := by unfold getL; rw [if_neg hh]
                    rw [e]
                    intro b hb
                    simp [dBk] at hb
                obtain ⟨gd, hgd⟩ : ∃ gd, (getL L' id).2 = gd := ⟨_, rfl⟩
                rw [hgd] at HG hbs
                obtain ⟨gl, hgl⟩ : ∃ gl, gd.length = gl := ⟨_, rfl⟩
                simp only [hgl] at HG
                have HBS : Hid (Bytes gd ∧ gd.length = gl ∧ (getL L' id).2 = gd ∧ posL L' id = P ∧ L'.length = n2) := ⟨hbs, hgl, hgd, hP, hn2⟩
                obtain ⟨x0, x1, x2⟩ := hA.cells
                clear hA hbs hgl hgd hP hn2
                cases H2
                case false =>
                  have hf : findL L' id = -1 := by unfold findL; rw [hH]; rfl
                  have hge : decide ((-1 : Int) ≥ 0) = false := by decide
                  rw [hf] at HFd
                  clear hf hH
                  go_wp2_with fail
                  refine HFd.mono ?_
                  rintro e w10 ⟨rfl, rfl⟩
                  clear HFd
                  go_wp2_with fail
                  refine HG.mono ?_
                  rintro e w11 ⟨ga, gb, rfl, lG, A11, k11⟩
                  have HA11 : Hid (Alb w p q L' L' m' m' Q (.cells #[.int .i64 id, .slice ab zl cb] 36 (0, 0)) w11) := A11
                  have H18 : Hid _ := A11.tHas id _ HH.out
                  have H19 : Hid _ := A11.tLen n2 HBS.out.2.2.2.2
                  have H20 : Hid _ := A11.tMost
                  have H22 : Hid _ := A11.tIds n2 HBS.out.2.2.2.2
                  obtain ⟨g0, gc, ys, s1, s2, s3, s4, s5, s6, s7⟩ := A11.shows
                  rw [HBS.out.2.2.2.2] at s2 s3 s4 s7
                  have H26 : Hid _ := A11.tAll g0 n2 gc ys s1 (fun W k => (s7 W k).1)
                  have hni3 : (n2 : Int) ≤ 64 := by omega
                  clear HG x0 x1 x2 k11
                  have HCl : Hid (∀ W, Chg no w11 W → W.cell? ⟨Q, 0, none⟩ = some (.int .i64 id) ∧ W.cell? ⟨q, 0, none⟩ = some (.slice g0 n2 gc) ∧ W.cell? ⟨q, 1, none⟩ = some (.int .i64 (m' : Int))) := by
                    intro W k
                    obtain ⟨_, c1, c2, _⟩ := s7 W k
                    exact ⟨(HA11.out.same k).cells.1, c1, c2⟩
                  clear lG A11 s1 s2 s3 s4 s5 s6 s7 HBS HH
                  go_wp2_with fail
                  obtain ⟨pK, hpK⟩ : ∃ pK : World → Prop, ∀ w', pK w' ↔ Chg no w11 w' := ⟨_, fun _ => Iff.rfl⟩
                  have xK0 : ∀ x' : far.InC pK, x'.w.cell? ⟨Q, 0, none⟩ = some (.int .i64 id) := fun x => (HCl.out _ ((hpK _).1 x.h)).1
                  have xK1 : ∀ x' : far.InC pK, x'.w.cell? ⟨q, 0, none⟩ = some (.slice g0 n2 gc) := fun x => (HCl.out _ ((hpK _).1 x.h)).2.1
                  have xK2 : ∀ x' : far.InC pK, x'.w.cell? ⟨q, 1, none⟩ = some (.int .i64 (m' : Int)) := fun x => (HCl.out _ ((hpK _).1 x.h)).2.2
                  have iK : Nonempty (far.InC pK) := ⟨⟨w11, (hpK _).2 (Chg.refl no w11)⟩⟩
                  have HpK : Hid (∀ w', pK w' ↔ Chg no w11 w') := hpK
                  have Y0 : Chg no w11 w11.drew := (Chg.refl no w11).drew
                  clear hpK HCl
                  simp only [List.append_eq, List.cons_append, List.nil_append]
                  refine far.region_farM (fun κ w' => pK w') [12, 28, 34, 44, 53, 55, 56, 61, 62, 67] (by kernel_rfl) (by kernel_rfl) ((HpK.out _).2 Y0) ?_
                  intro L e1' e2' e3'
                  refine far.farO_stretch pK 12 0 10 e1' e2' e3' (by kernel_rfl) (by kernel_rfl) (fun κ w' hk1 hk2 hC => hC) ?_
                  simp only [List.take_succ_cons, List.take_zero, List.drop_succ_cons, List.drop_zero, Nat.reduceAdd]
                  repeat (go_big_quiet_step (fail))
                  refine wpQuiet_nil ?_
                  refine far.farO_enter e1' e2' 0 rfl rfl 18 #[pt p, .int .i64 id] (by kernel_rfl) (by kernel_rfl) ?_
                  refine (H18.out _ Y0).mono ?_
                  rintro e w12 ⟨rfl, k12⟩
                  refine ⟨_, rfl, (HpK.out _).2 k12, ?_⟩
                  simp only [Act.put, List.setIfInBounds_toArray, List.set_cons_succ, List.set_cons_zero, Nat.reduceAdd]
                  refine far.farO_stretch pK 15 0 10 e1' e2' e3' (by kernel_rfl) (by kernel_rfl) (fun κ w' hk1 hk2 hC => hC) ?_
                  simp only [List.take_succ_cons, List.take_zero, List.drop_succ_cons, List.drop_zero, Nat.reduceAdd]
                  repeat (go_big_quiet_step (fail))
                  refine wpQuiet_nil ?_
                  refine far.farO_over (by kernel_rfl) (by rw [e1']; exact (HpK.out _).2 k12) ?_
                  simp only [Act.put, List.setIfInBounds_toArray, List.set_cons_succ, List.set_cons_zero, Nat.reduceAdd]
                  refine far.farO_stretch pK 5 0 10 e1' e2' e3' (by kernel_rfl) (by kernel_rfl) (fun κ w' hk1 hk2 hC => hC) ?_
                  simp only [List.take_succ_cons, List.take_zero, List.drop_succ_cons, List.drop_zero, Nat.reduceAdd]
                  repeat (go_big_quiet_step (fail))
                  refine wpQuiet_nil ?_
                  refine far.farO_enter e1' e2' 2 rfl rfl 19 #[pt p] (by kernel_rfl) (by kernel_rfl) ?_
                  refine (H19.out _ k12).mono ?_
                  rintro e w14 ⟨rfl, rfl⟩
                  refine ⟨_, rfl, (HpK.out _).2 k12, ?_⟩
                  simp only [Act.put, List.setIfInBounds_toArray, List.set_cons_succ, List.set_cons_zero, Nat.reduceAdd]
                  refine far.farO_stretch pK 9 0 10 e1' e2' e3' (by kernel_rfl) (by kernel_rfl) (fun κ w' hk1 hk2 hC => hC) ?_
                  simp only [List.take_succ_cons, List.take_zero, List.drop_succ_cons, List.drop_zero, Nat.reduceAdd]
                  repeat (go_big_quiet_step (fail))
                  refine wpQuiet_nil ?_
                  refine far.farO_enter e1' e2' 3 rfl rfl 20 #[pt p] (by kernel_rfl) (by kernel_rfl) ?_
                  refine (H20.out _ k12).mono ?_
                  rintro e w15 ⟨rfl, rfl⟩
                  refine ⟨_, rfl, (HpK.out _).2 k12, ?_⟩
                  simp only [Act.put, List.setIfInBounds_toArray, List.set_cons_succ, List.set_cons_zero, Nat.reduceAdd]
                  refine far.farO_stretch pK 8 0 10 e1' e2' e3' (by kernel_rfl) (by kernel_rfl) (fun κ w' hk1 hk2 hC => hC) ?_
                  simp only [List.take_succ_cons, List.take_zero, List.drop_succ_cons, List.drop_zero, Nat.reduceAdd]
                  repeat (go_big_quiet_step (fail))
                  refine wpQuiet_nil ?_
                  refine far.farO_enter e1' e2' 4 rfl rfl 22 #[pt p] (by kernel_rfl) (by kernel_rfl) ?_
                  refine (H22.out _ k12).mono ?_
                  rintro e w16 ⟨ia, ic, rfl, k16, h23⟩
                  refine ⟨_, rfl, (HpK.out _).2 k16, ?_⟩
                  simp only [Act.put, List.setIfInBounds_toArray, List.set_cons_succ, List.set_cons_zero, Nat.reduceAdd]
                  refine far.farO_stretch pK 1 0 10 e1' e2' e3' (by kernel_rfl) (by kernel_rfl) (fun κ w' hk1 hk2 hC => hC) ?_
                  simp only [List.take_succ_cons, List.take_zero, List.drop_succ_cons, List.drop_zero, Nat.reduceAdd]
                  repeat (go_big_quiet_step (fail))
                  refine wpQuiet_nil ?_
                  refine far.farO_enter e1' e2' 5 rfl rfl 23 #[pt q] (by kernel_rfl) (by kernel_rfl) ?_
                  refine (h23).mono ?_
                  rintro e w17 ⟨ja, jc, rfl, k17, h21⟩
                  refine ⟨_, rfl, (HpK.out _).2 k17, ?_⟩
                  simp only [Act.put, List.setIfInBounds_toArray, List.set_cons_succ, List.set_cons_zero, Nat.reduceAdd]
                  refine far.farO_enter e1' e2' 6 rfl rfl 21 #[.slice ia n2 ic, .slice ja n2 jc] (by kernel_rfl) (by kernel_rfl) ?_
                  refine (h21).mono ?_
                  rintro e w18 ⟨rfl, k18⟩
                  refine ⟨_, rfl, (HpK.out _).2 k18, ?_⟩
                  simp only [Act.put, List.setIfInBounds_toArray, List.set_cons_succ, List.set_cons_zero, Nat.reduceAdd]
                  refine far.farO_stretch pK 4 0 10 e1' e2' e3' (by kernel_rfl) (by kernel_rfl) (fun κ w' hk1 hk2 hC => hC) ?_
                  simp only [List.take_succ_cons, List.take_zero, List.drop_succ_cons, List.drop_zero, Nat.reduceAdd]
                  repeat (go_big_quiet_step (fail))
                  refine wpQuiet_nil ?_
                  refine far.farO_enter e1' e2' 7 rfl rfl 26 #[pt p] (by kernel_rfl) (by kernel_rfl) ?_
                  refine (H26.out _ k18).mono ?_
                  rintro e w19 ⟨la, ll, lc, rfl, k19, h25⟩
                  refine ⟨_, rfl, (HpK.out _).2 k19, ?_⟩
                  simp only [Act.put, List.setIfInBounds_toArray, List.set_cons_succ, List.set_cons_zero, Nat.reduceAdd]
                  refine far.farO_enter e1' e2' 8 rfl rfl 25 #[.slice la ll lc] (by kernel_rfl) (by kernel_rfl) ?_
                  refine (h25).mono ?_
                  rintro e w20 ⟨lv, rfl, k20, h24⟩
                  refine ⟨_, rfl, (HpK.out _).2 k20, ?_⟩
                  simp only [Act.put, List.setIfInBounds_toArray, List.set_cons_succ, List.set_cons_zero, Nat.reduceAdd]
                  refine far.farO_stretch pK 4 0 10 e1' e2' e3' (by kernel_rfl) (by kernel_rfl) (fun κ w' hk1 hk2 hC => hC) ?_
                  simp only [List.take_succ_cons, List.take_zero, List.drop_succ_cons, List.drop_zero, Nat.reduceAdd]
                  repeat (go_big_quiet_step (fail))
                  refine wpQuiet_nil ?_
                  refine far.farO_enter e1' e2' 9 rfl rfl 24 #[lv, .slice g0 n2 gc] (by kernel_rfl) (by kernel_rfl) ?_
                  refine (h24).mono ?_
                  rintro e w21 ⟨rfl, k21⟩
                  refine ⟨_, rfl, (HpK.out _).2 k21, ?_⟩
                  simp only [Act.put, List.setIfInBounds_toArray, List.set_cons_succ, List.set_cons_zero, Nat.reduceAdd]
                  refine far.farO_stretch pK 2 0 10 e1' e2' e3' (by kernel_rfl) (by kernel_rfl) (fun κ w' hk1 hk2 hC => hC) ?_
                  simp only [List.take_succ_cons, List.take_zero, List.drop_succ_cons, List.drop_zero, Nat.reduceAdd]
                  repeat (go_big_quiet_step (fail))
                  refine wpQuiet_nil ?_
                  refine far.farO_nil ?_
                  go_wp2
                  go_roundw
                  case rel => exact ⟨j + 1, L', m', by omega, by go_num, HA11.out.drop.same k21⟩
                  case measure => simp [intOf]; omega
                case true =>
                  have hf : findL L' id = (P : Int) := by unfold findL; rw [hH, if_pos rfl, HBS.out.2.2.2.1]
                  have hge : decide ((P : Int) ≥ 0) = true := by simp
                  rw [hf] at HFd
                  clear hf hH
                  go_wp2_with fail
                  refine HFd.mono ?_
                  rintro e w10 ⟨rfl, rfl⟩
                  clear HFd
                  go_wp2_with fail
                  refine HG.mono ?_
                  rintro e w11 ⟨ga, gb, rfl, lG, A11, k11⟩
                  have HA11 : Hid (Alb w p q L' L' m' m' Q (.cells #[.int .i64 id, .slice ab zl cb] 36 (0, 0)) w11) := A11
                  have H18 : Hid _ := A11.tHas id _ HH.out
                  have H19 : Hid _ := A11.tLen n2 HBS.out.2.2.2.2
                  have H20 : Hid _ := A11.tMost
                  have H22 : Hid _ := A11.tIds n2 HBS.out.2.2.2.2
                  obtain ⟨g0, gc, ys, s1, s2, s3, s4, s5, s6, s7⟩ := A11.shows
                  rw [HBS.out.2.2.2.2] at s2 s3 s4 s7
                  have H26 : Hid _ := A11.tAll g0 n2 gc ys s1 (fun W k => (s7 W k).1)
                  have hni3 : (n2 : Int) ≤ 64 := by omega
                  clear HG x0 x1 x2 k11
                  obtain ⟨hbk, _⟩ := s7 w11 (Chg.refl no w11)
                  have hpl : P < n2 := by have := (has_at HH.out).1; rw [HBS.out.2.2.2.1, HBS.out.2.2.2.2] at this; exact this
                  obtain ⟨y, ab2, cb2, rfl, e5, e6, _, l6, b6, _, _⟩ := hbk.at P (by rw [s2]; exact hpl)
                  have hdd : (ys.getD P dBV).d = gd := by
                    have e : getL L' id = L'.getD (posL L' id) dBk := by unfold getL; rw [if_pos HH.out]
                    rw [← HBS.out.2.2.1, e, HBS.out.2.2.2.1, ← s1, abs_getD]
                    rfl
                  rw [hdd] at e6 l6
                  rw [HBS.out.2.1] at e6 l6
                  have H15 : Hid (∀ W, Chg no w11 W → Calls Try.prog 15 #[.slice ga gl gb, .slice ab2 gl cb2] W fun e w' => e = .returned (.bool true) ∧ w' = W) := by
                    intro W k
                    have := bytes_any (Lies.later lG k) (Lies.later l6 k) HBS.out.1 HBS.out.1
                    rw [decide_eq_true (rfl : gd = gd)] at this
                    exact this
                  have hpi : (P : Int) < (n2 : Int) := by omega
                  have hp0 : (0 : Int) ≤ (P : Int) := by omega
                  have tn : ((P : Int)).toNat = P := by omega
                  have HCl : Hid (∀ W, Chg no w11 W → W.cell? ⟨Q, 0, none⟩ = some (.int .i64 id) ∧ W.cell? ⟨q, 0, none⟩ = some (.slice (some y) n2 gc) ∧ W.cell? ⟨q, 1, none⟩ = some (.int .i64 (m' : Int)) ∧ W.cell? ⟨(y.add (P * 2)).block, (y.add (P * 2)).off + 1, none⟩ = some (.slice ab2 gl cb2)) := by
                    intro W k
                    obtain ⟨_, c1, c2, _⟩ := s7 W k
                    exact ⟨(HA11.out.same k).cells.1, c1, c2, k.cell e6 (fun h => h)⟩
                  clear hdd l6 b6 e5 e6 hbk hpl
                  clear lG A11 s1 s2 s3 s4 s5 s6 s7 HBS HH
                  go_wp2_with fail
                  obtain ⟨pK, hpK⟩ : ∃ pK : World → Prop, ∀ w', pK w' ↔ Chg no w11 w' := ⟨_, fun _ => Iff.rfl⟩
                  have xK0 : ∀ x' : far.InC pK, x'.w.cell? ⟨Q, 0, none⟩ = some (.int .i64 id) := fun x => (HCl.out _ ((hpK _).1 x.h)).1
                  have xK1 : ∀ x' : far.InC pK, x'.w.cell? ⟨q, 0, none⟩ = some (.slice (some y) n2 gc) := fun x => (HCl.out _ ((hpK _).1 x.h)).2.1
                  have xK2 : ∀ x' : far.InC pK, x'.w.cell? ⟨q, 1, none⟩ = some (.int .i64 (m' : Int)) := fun x => (HCl.out _ ((hpK _).1 x.h)).2.2.1
                  have xK3 : ∀ x' : far.InC pK, x'.w.cell? ⟨(y.add (P * 2)).block, (y.add (P * 2)).off + 1, none⟩ = some (.slice ab2 gl cb2) := fun x => (HCl.out _ ((hpK _).1 x.h)).2.2.2
                  have iK : Nonempty (far.InC pK) := ⟨⟨w11, (hpK _).2 (Chg.refl no w11)⟩⟩
                  have HpK : Hid (∀ w', pK w' ↔ Chg no w11 w') := hpK
                  have Y0 : Chg no w11 w11.drew := (Chg.refl no w11).drew
                  clear hpK HCl
                  simp only [List.append_eq, List.cons_append, List.nil_append]
                  refine far.region_farM (fun κ w' => pK w') [12, 28, 34, 44, 53, 55, 56, 61, 62, 67] (by kernel_rfl) (by kernel_rfl) ((HpK.out _).2 Y0) ?_
                  intro L e1' e2' e3'
                  refine far.farO_stretch pK 12 0 10 e1' e2' e3' (by kernel_rfl) (by kernel_rfl) (fun κ w' hk1 hk2 hC => hC) ?_
                  simp only [List.take_succ_cons, List.take_zero, List.drop_succ_cons, List.drop_zero, Nat.reduceAdd]
                  repeat (go_big_quiet_step (fail))
                  refine wpQuiet_nil ?_
                  refine far.farO_enter e1' e2' 0 rfl rfl 18 #[pt p, .int .i64 id] (by kernel_rfl) (by kernel_rfl) ?_
                  refine (H18.out _ Y0).mono ?_
                  rintro e w12 ⟨rfl, k12⟩
                  refine ⟨_, rfl, (HpK.out _).2 k12, ?_⟩
                  simp only [Act.put, List.setIfInBounds_toArray, List.set_cons_succ, List.set_cons_zero, Nat.reduceAdd]
                  refine far.farO_stretch pK 15 0 10 e1' e2' e3' (by kernel_rfl) (by kernel_rfl) (fun κ w' hk1 hk2 hC => hC) ?_
                  simp only [List.take_succ_cons, List.take_zero, List.drop_succ_cons, List.drop_zero, Nat.reduceAdd]
                  repeat (go_big_quiet_step (fail))
                  refine wpQuiet_nil ?_
                  refine far.farO_enter e1' e2' 1 rfl rfl 15 #[.slice ga gl gb, .slice ab2 gl cb2] (by kernel_rfl) (by kernel_rfl) ?_
                  refine (H15.out _ k12).mono ?_
                  rintro e w13 ⟨rfl, rfl⟩
                  refine ⟨_, rfl, (HpK.out _).2 k12, ?_⟩
                  simp only [Act.put, List.setIfInBounds_toArray, List.set_cons_succ, List.set_cons_zero, Nat.reduceAdd]
                  refine far.farO_stretch pK 5 0 10 e1' e2' e3' (by kernel_rfl) (by kernel_rfl) (fun κ w' hk1 hk2 hC => hC) ?_
                  simp only [List.take_succ_cons, List.take_zero, List.drop_succ_cons, List.drop_zero, Nat.reduceAdd]
                  repeat (go_big_quiet_step (fail))
                  refine wpQuiet_nil ?_
                  refine far.farO_enter e1' e2' 2 rfl rfl 19 #[pt p] (by kernel_rfl) (by kernel_rfl) ?_
                  refine (H19.out _ k12).mono ?_
                  rintro e w14 ⟨rfl, rfl⟩
                  refine ⟨_, rfl, (HpK.out _).2 k12, ?_⟩
                  simp only [Act.put, List.setIfInBounds_toArray, List.set_cons_succ, List.set_cons_zero, Nat.reduceAdd]
                  refine far.farO_stretch pK 9 0 10 e1' e2' e3' (by kernel_rfl) (by kernel_rfl) (fun κ w' hk1 hk2 hC => hC) ?_
                  simp only [List.take_succ_cons, List.take_zero, List.drop_succ_cons, List.drop_zero, Nat.reduceAdd]
                  repeat (go_big_quiet_step (fail))
                  refine wpQuiet_nil ?_
                  refine far.farO_enter e1' e2' 3 rfl rfl 20 #[pt p] (by kernel_rfl) (by kernel_rfl) ?_
                  refine (H20.out _ k12).mono ?_
                  rintro e w15 ⟨rfl, rfl⟩
                  refine ⟨_, rfl, (HpK.out _).2 k12, ?_⟩
                  simp only [Act.put, List.setIfInBounds_toArray, List.set_cons_succ, List.set_cons_zero, Nat.reduceAdd]
                  refine far.farO_stretch pK 8 0 10 e1' e2' e3' (by kernel_rfl) (by kernel_rfl) (fun κ w' hk1 hk2 hC => hC) ?_
                  simp only [List.take_succ_cons, List.take_zero, List.drop_succ_cons, List.drop_zero, Nat.reduceAdd]
                  repeat (go_big_quiet_step (fail))
                  refine wpQuiet_nil ?_
                  refine far.farO_enter e1' e2' 4 rfl rfl 22 #[pt p] (by kernel_rfl) (by kernel_rfl) ?_
                  refine (H22.out _ k12).mono ?_
                  rintro e w16 ⟨ia, ic, rfl, k16, h23⟩
                  refine ⟨_, rfl, (HpK.out _).2 k16, ?_⟩
                  simp only [Act.put, List.setIfInBounds_toArray, List.set_cons_succ, List.set_cons_zero, Nat.reduceAdd]
                  refine far.farO_stretch pK 1 0 10 e1' e2' e3' (by kernel_rfl) (by kernel_rfl) (fun κ w' hk1 hk2 hC => hC) ?_
                  simp only [List.take_succ_cons, List.take_zero, List.drop_succ_cons, List.drop_zero, Nat.reduceAdd]
                  repeat (go_big_quiet_step (fail))
                  refine wpQuiet_nil ?_
                  refine far.farO_enter e1' e2' 5 rfl rfl 23 #[pt q] (by kernel_rfl) (by kernel_rfl) ?_
                  refine (h23).mono ?_
                  rintro e w17 ⟨ja, jc, rfl, k17, h21⟩
                  refine ⟨_, rfl, (HpK.out _).2 k17, ?_⟩
                  simp only [Act.put, List.setIfInBounds_toArray, List.set_cons_succ, List.set_cons_zero, Nat.reduceAdd]
                  refine far.farO_enter e1' e2' 6 rfl rfl 21 #[.slice ia n2 ic, .slice ja n2 jc] (by kernel_rfl) (by kernel_rfl) ?_
                  refine (h21).mono ?_
                  rintro e w18 ⟨rfl, k18⟩
                  refine ⟨_, rfl, (HpK.out _).2 k18, ?_⟩
                  simp only [Act.put, List.setIfInBounds_toArray, List.set_cons_succ, List.set_cons_zero, Nat.reduceAdd]
                  refine far.farO_stretch pK 4 0 10 e1' e2' e3' (by kernel_rfl) (by kernel_rfl) (fun κ w' hk1 hk2 hC => hC) ?_
                  simp only [List.take_succ_cons, List.take_zero, List.drop_succ_cons, List.drop_zero, Nat.reduceAdd]
                  repeat (go_big_quiet_step (fail))
                  refine wpQuiet_nil ?_
                  refine far.farO_enter e1' e2' 7 rfl rfl 26 #[pt p] (by kernel_rfl) (by kernel_rfl) ?_
                  refine (H26.out _ k18).mono ?_
                  rintro e w19 ⟨la, ll, lc, rfl, k19, h25⟩
                  refine ⟨_, rfl, (HpK.out _).2 k19, ?_⟩
                  simp only [Act.put, List.setIfInBounds_toArray, List.set_cons_succ, List.set_cons_zero, Nat.reduceAdd]
                  refine far.farO_enter e1' e2' 8 rfl rfl 25 #[.slice la ll lc] (by kernel_rfl) (by kernel_rfl) ?_
                  refine (h25).mono ?_
                  rintro e w20 ⟨lv, rfl, k20, h24⟩
                  refine ⟨_, rfl, (HpK.out _).2 k20, ?_⟩
                  simp only [Act.put, List.setIfInBounds_toArray, List.set_cons_succ, List.set_cons_zero, Nat.reduceAdd]
                  refine far.farO_stretch pK 4 0 10 e1' e2' e3' (by kernel_rfl) (by kernel_rfl) (fun κ w' hk1 hk2 hC => hC) ?_
                  simp only [List.take_succ_cons, List.take_zero, List.drop_succ_cons, List.drop_zero, Nat.reduceAdd]
                  repeat (go_big_quiet_step (fail))
                  refine wpQuiet_nil ?_
                  refine far.farO_enter e1' e2' 9 rfl rfl 24 #[lv, .slice (some y) n2 gc] (by kernel_rfl) (by kernel_rfl) ?_
                  refine (h24).mono ?_
                  rintro e w21 ⟨rfl, k21⟩
                  refine ⟨_, rfl, (HpK.out _).2 k21, ?_⟩
                  simp only [Act.put, List.setIfInBounds_toArray, List.set_cons_succ, List.set_cons_zero, Nat.reduceAdd]
                  refine far.farO_stretch pK 2 0 10 e1' e2' e3' (by kernel_rfl) (by kernel_rfl) (fun κ w' hk1 hk2 hC => hC) ?_
                  simp only [List.take_succ_cons, List.take_zero, List.drop_succ_cons, List.drop_zero, Nat.reduceAdd]
                  repeat (go_big_quiet_step (fail))
                  refine wpQuiet_nil ?_
                  refine far.farO_nil ?_
                  go_wp2
                  go_roundw
                  case rel => exact ⟨j + 1, L', m', by omega, by go_num, HA11.out.drop.same k21⟩
                  case measure => simp [intOf]; omega
              · have hk1b : (kind == 1) = false := by simpa using hk1
                have HA6 : Hid (∃ L' m', Alb w p q L' L' m' m' Q (.cells #[.int .i64 id, .slice ab zl cb] 36 (0, 0)) wX) := ⟨_, _, HB1.out⟩
                clear HB1 HOK HLB HV HE0 HO HK hk0
                obtain ⟨L', m', hA⟩ := HA6.out
                clear HA6
                obtain ⟨n2, hn2⟩ : ∃ n2, L'.length = n2 := ⟨_, rfl⟩
                obtain ⟨P, hP⟩ : ∃ P, posL L' id = P := ⟨_, rfl⟩
                obtain ⟨H2, hH⟩ : ∃ H2, hasL L' id = H2 := ⟨_, rfl⟩
                have HH : Hid (hasL L' id = H2) := hH
                have HFd := hA.find id
                have HG := hA.get id
                rw [hH] at HG
                have hbs : Bytes (getL L' id).2 := by
                  by_cases hh : hasL L' id = true
                  · obtain ⟨z1, z2⟩ := has_at hh
                    have e : getL L' id = L'.getD (posL L' id) dBk := by unfold getL; rw [if_pos hh]
                    rw [e]
                    exact hA.bytes _ (getD_mem z1)
                  · have e : getL L' id = dBk := by unfold getL; rw [if_neg hh]
                    rw [e]
                    intro b hb
                    simp [dBk] at hb
                obtain ⟨gd, hgd⟩ : ∃ gd, (getL L' id).2 = gd := ⟨_, rfl⟩
                rw [hgd] at HG hbs
                obtain ⟨gl, hgl⟩ : ∃ gl, gd.length = gl := ⟨_, rfl⟩
                simp only [hgl] at HG
                have HBS : Hid (Bytes gd ∧ gd.length = gl ∧ (getL L' id).2 = gd ∧ posL L' id = P ∧ L'.length = n2) := ⟨hbs, hgl, hgd, hP, hn2⟩
                obtain ⟨x0, x1, x2⟩ := hA.cells
                clear hA hbs hgl hgd hP hn2
                cases H2
                case false =>
                  have hf : findL L' id = -1 := by unfold findL; rw [hH]; rfl
                  have hge : decide ((-1 : Int) ≥ 0) = false := by decide
                  rw [hf] at HFd
                  clear hf hH
                  go_wp2_with fail
                  refine HFd.mono ?_
                  rintro e w10 ⟨rfl, rfl⟩
                  clear HFd
                  go_wp2_with fail
                  refine HG.mono ?_
                  rintro e w11 ⟨ga, gb, rfl, lG, A11, k11⟩
                  have HA11 : Hid (Alb w p q L' L' m' m' Q (.cells #[.int .i64 id, .slice ab zl cb] 36 (0, 0)) w11) := A11
                  have H18 : Hid _ := A11.tHas id _ HH.out
                  have H19 : Hid _ := A11.tLen n2 HBS.out.2.2.2.2
                  have H20 : Hid _ := A11.tMost
                  have H22 : Hid _ := A11.tIds n2 HBS.out.2.2.2.2
                  obtain ⟨g0, gc, ys, s1, s2, s3, s4, s5, s6, s7⟩ := A11.shows
                  rw [HBS.out.2.2.2.2] at s2 s3 s4 s7
                  have H26 : Hid _ := A11.tAll g0 n2 gc ys s1 (fun W k => (s7 W k).1)
                  have hni3 : (n2 : Int) ≤ 64 := by omega
                  clear HG x0 x1 x2 k11
                  have HCl : Hid (∀ W, Chg no w11 W → W.cell? ⟨Q, 0, none⟩ = some (.int .i64 id) ∧ W.cell? ⟨q, 0, none⟩ = some (.slice g0 n2 gc) ∧ W.cell? ⟨q, 1, none⟩ = some (.int .i64 (m' : Int))) := by
                    intro W k
                    obtain ⟨_, c1, c2, _⟩ := s7 W k
                    exact ⟨(HA11.out.same k).cells.1, c1, c2⟩
                  clear lG A11 s1 s2 s3 s4 s5 s6 s7 HBS HH
                  go_wp2_with fail
                  obtain ⟨pK, hpK⟩ : ∃ pK : World → Prop, ∀ w', pK w' ↔ Chg no w11 w' := ⟨_, fun _ => Iff.rfl⟩
                  have xK0 : ∀ x' : far.InC pK, x'.w.cell? ⟨Q, 0, none⟩ = some (.int .i64 id) := fun x => (HCl.out _ ((hpK _).1 x.h)).1
                  have xK1 : ∀ x' : far.InC pK, x'.w.cell? ⟨q, 0, none⟩ = some (.slice g0 n2 gc) := fun x => (HCl.out _ ((hpK _).1 x.h)).2.1
                  have xK2 : ∀ x' : far.InC pK, x'.w.cell? ⟨q, 1, none⟩ = some (.int .i64 (m' : Int)) := fun x => (HCl.out _ ((hpK _).1 x.h)).2.2
                  have iK : Nonempty (far.InC pK) := ⟨⟨w11, (hpK _).2 (Chg.refl no w11)⟩⟩
                  have HpK : Hid (∀ w', pK w' ↔ Chg no w11 w') := hpK
                  have Y0 : Chg no w11 w11.drew := (Chg.refl no w11).drew
                  clear hpK HCl
                  simp only [List.append_eq, List.cons_append, List.nil_append]
                  refine far.region_farM (fun κ w' => pK w') [12, 28, 34, 44, 53, 55, 56, 61, 62, 67] (by kernel_rfl) (by kernel_rfl) ((HpK.out _).2 Y0) ?_
                  intro L e1' e2' e3'
                  refine far.farO_stretch pK 12 0 10 e1' e2' e3' (by kernel_rfl) (by kernel_rfl) (fun κ w' hk1 hk2 hC => hC) ?_
                  simp only [List.take_succ_cons, List.take_zero, List.drop_succ_cons, List.drop_zero, Nat.reduceAdd]
                  repeat (go_big_quiet_step (fail))
                  refine wpQuiet_nil ?_
                  refine far.farO_enter e1' e2' 0 rfl rfl 18 #[pt p, .int .i64 id] (by kernel_rfl) (by kernel_rfl) ?_
                  refine (H18.out _ Y0).mono ?_
                  rintro e w12 ⟨rfl, k12⟩
                  refine ⟨_, rfl, (HpK.out _).2 k12, ?_⟩
                  simp only [Act.put, List.setIfInBounds_toArray, List.set_cons_succ, List.set_cons_zero, Nat.reduceAdd]
                  refine far.farO_stretch pK 15 0 10 e1' e2' e3' (by kernel_rfl) (by kernel_rfl) (fun κ w' hk1 hk2 hC => hC) ?_
                  simp only [List.take_succ_cons, List.take_zero, List.drop_succ_cons, List.drop_zero, Nat.reduceAdd]
                  repeat (go_big_quiet_step (fail))
                  refine wpQuiet_nil ?_
                  refine far.farO_over (by kernel_rfl) (by rw [e1']; exact (HpK.out _).2 k12) ?_
                  simp only [Act.put, List.setIfInBounds_toArray, List.set_cons_succ, List.set_cons_zero, Nat.reduceAdd]
                  refine far.farO_stretch pK 5 0 10 e1' e2' e3' (by kernel_rfl) (by kernel_rfl) (fun κ w' hk1 hk2 hC => hC) ?_
                  simp only [List.take_succ_cons, List.take_zero, List.drop_succ_cons, List.drop_zero, Nat.reduceAdd]
                  repeat (go_big_quiet_step (fail))
                  refine wpQuiet_nil ?_
                  refine far.farO_enter e1' e2' 2 rfl rfl 19 #[pt p] (by kernel_rfl) (by kernel_rfl) ?_
                  refine (H19.out _ k12).mono ?_
                  rintro e w14 ⟨rfl, rfl⟩
                  refine ⟨_, rfl, (HpK.out _).2 k12, ?_⟩
                  simp only [Act.put, List.setIfInBounds_toArray, List.set_cons_succ, List.set_cons_zero, Nat.reduceAdd]
                  refine far.farO_stretch pK 9 0 10 e1' e2' e3' (by kernel_rfl) (by kernel_rfl) (fun κ w' hk1 hk2 hC => hC) ?_
                  simp only [List.take_succ_cons, List.take_zero, List.drop_succ_cons, List.drop_zero, Nat.reduceAdd]
                  repeat (go_big_quiet_step (fail))
                  refine wpQuiet_nil ?_
                  refine far.farO_enter e1' e2' 3 rfl rfl 20 #[pt p] (by kernel_rfl) (by kernel_rfl) ?_
                  refine (H20.out _ k12).mono ?_
                  rintro e w15 ⟨rfl, rfl⟩
                  refine ⟨_, rfl, (HpK.out _).2 k12, ?_⟩
                  simp only [Act.put, List.setIfInBounds_toArray, List.set_cons_succ, List.set_cons_zero, Nat.reduceAdd]
                  refine far.farO_stretch pK 8 0 10 e1' e2' e3' (by kernel_rfl) (by kernel_rfl) (fun κ w' hk1 hk2 hC => hC) ?_
                  simp only [List.take_succ_cons, List.take_zero, List.drop_succ_cons, List.drop_zero, Nat.reduceAdd]
                  repeat (go_big_quiet_step (fail))
                  refine wpQuiet_nil ?_
                  refine far.farO_enter e1' e2' 4 rfl rfl 22 #[pt p] (by kernel_rfl) (by kernel_rfl) ?_
                  refine (H22.out _ k12).mono ?_
                  rintro e w16 ⟨ia, ic, rfl, k16, h23⟩
                  refine ⟨_, rfl, (HpK.out _).2 k16, ?_⟩
                  simp only [Act.put, List.setIfInBounds_toArray, List.set_cons_succ, List.set_cons_zero, Nat.reduceAdd]
                  refine far.farO_stretch pK 1 0 10 e1' e2' e3' (by kernel_rfl) (by kernel_rfl) (fun κ w' hk1 hk2 hC => hC) ?_
                  simp only [List.take_succ_cons, List.take_zero, List.drop_succ_cons, List.drop_zero, Nat.reduceAdd]
                  repeat (go_big_quiet_step (fail))
                  refine wpQuiet_nil ?_
                  refine far.farO_enter e1' e2' 5 rfl rfl 23 #[pt q] (by kernel_rfl) (by kernel_rfl) ?_
                  refine (h23).mono ?_
                  rintro e w17 ⟨ja, jc, rfl, k17, h21⟩
                  refine ⟨_, rfl, (HpK.out _).2 k17, ?_⟩
                  simp only [Act.put, List.setIfInBounds_toArray, List.set_cons_succ, List.set_cons_zero, Nat.reduceAdd]
                  refine far.farO_enter e1' e2' 6 rfl rfl 21 #[.slice ia n2 ic, .slice ja n2 jc] (by kernel_rfl) (by kernel_rfl) ?_
                  refine (h21).mono ?_
                  rintro e w18 ⟨rfl, k18⟩
                  refine ⟨_, rfl, (HpK.out _).2 k18, ?_⟩
                  simp only [Act.put, List.setIfInBounds_toArray, List.set_cons_succ, List.set_cons_zero, Nat.reduceAdd]
                  refine far.farO_stretch pK 4 0 10 e1' e2' e3' (by kernel_rfl) (by kernel_rfl) (fun κ w' hk1 hk2 hC => hC) ?_
                  simp only [List.take_succ_cons, List.take_zero, List.drop_succ_cons, List.drop_zero, Nat.reduceAdd]
                  repeat (go_big_quiet_step (fail))
                  refine wpQuiet_nil ?_
                  refine far.farO_enter e1' e2' 7 rfl rfl 26 #[pt p] (by kernel_rfl) (by kernel_rfl) ?_
                  refine (H26.out _ k18).mono ?_
                  rintro e w19 ⟨la, ll, lc, rfl, k19, h25⟩
                  refine ⟨_, rfl, (HpK.out _).2 k19, ?_⟩
                  simp only [Act.put, List.setIfInBounds_toArray, List.set_cons_succ, List.set_cons_zero, Nat.reduceAdd]
                  refine far.farO_enter e1' e2' 8 rfl rfl 25 #[.slice la ll lc] (by kernel_rfl) (by kernel_rfl) ?_
                  refine (h25).mono ?_
                  rintro e w20 ⟨lv, rfl, k20, h24⟩
                  refine ⟨_, rfl, (HpK.out _).2 k20, ?_⟩
                  simp only [Act.put, List.setIfInBounds_toArray, List.set_cons_succ, List.set_cons_zero, Nat.reduceAdd]
                  refine far.farO_stretch pK 4 0 10 e1' e2' e3' (by kernel_rfl) (by kernel_rfl) (fun κ w' hk1 hk2 hC => hC) ?_
                  simp only [List.take_succ_cons, List.take_zero, List.drop_succ_cons, List.drop_zero, Nat.reduceAdd]
                  repeat (go_big_quiet_step (fail))
                  refine wpQuiet_nil ?_
                  refine far.farO_enter e1' e2' 9 rfl rfl 24 #[lv, .slice g0 n2 gc] (by kernel_rfl) (by kernel_rfl) ?_
                  refine (h24).mono ?_
                  rintro e w21 ⟨rfl, k21⟩
                  refine ⟨_, rfl, (HpK.out _).2 k21, ?_⟩
                  simp only [Act.put, List.setIfInBounds_toArray, List.set_cons_succ, List.set_cons_zero, Nat.reduceAdd]
                  refine far.farO_stretch pK 2 0 10 e1' e2' e3' (by kernel_rfl) (by kernel_rfl) (fun κ w' hk1 hk2 hC => hC) ?_
                  simp only [List.take_succ_cons, List.take_zero, List.drop_succ_cons, List.drop_zero, Nat.reduceAdd]
                  repeat (go_big_quiet_step (fail))
                  refine wpQuiet_nil ?_
                  refine far.farO_nil ?_
                  go_wp2
                  go_roundw
                  case rel => exact ⟨j + 1, L', m', by omega, by go_num, HA11.out.drop.same k21⟩
                  case measure => simp [intOf]; omega
                case true =>
                  have hf : findL L' id = (P : Int) := by unfold findL; rw [hH, if_pos rfl, HBS.out.2.2.2.1]
                  have hge : decide ((P : Int) ≥ 0) = true := by simp
                  rw [hf] at HFd
                  clear hf hH
                  go_wp2_with fail
                  refine HFd.mono ?_
                  rintro e w10 ⟨rfl, rfl⟩
                  clear HFd
                  go_wp2_with fail
                  refine HG.mono ?_
                  rintro e w11 ⟨ga, gb, rfl, lG, A11, k11⟩
                  have HA11 : Hid (Alb w p q L' L' m' m' Q (.cells #[.int .i64 id, .slice ab zl cb] 36 (0, 0)) w11) := A11
                  have H18 : Hid _ := A11.tHas id _ HH.out
                  have H19 : Hid _ := A11.tLen n2 HBS.out.2.2.2.2
                  have H20 : Hid _ := A11.tMost
                  have H22 : Hid _ := A11.tIds n2 HBS.out.2.2.2.2
                  obtain ⟨g0, gc, ys, s1, s2, s3, s4, s5, s6, s7⟩ := A11.shows
                  rw [HBS.out.2.2.2.2] at s2 s3 s4 s7
                  have H26 : Hid _ := A11.tAll g0 n2 gc ys s1 (fun W k => (s7 W k).1)
                  have hni3 : (n2 : Int) ≤ 64 := by omega
                  clear HG x0 x1 x2 k11
                  obtain ⟨hbk, _⟩ := s7 w11 (Chg.refl no w11)
                  have hpl : P < n2 := by have := (has_at HH.out).1; rw [HBS.out.2.2.2.1, HBS.out.2.2.2.2] at this; exact this
                  obtain ⟨y, ab2, cb2, rfl, e5, e6, _, l6, b6, _, _⟩ := hbk.at P (by rw [s2]; exact hpl)
                  have hdd : (ys.getD P dBV).d = gd := by
                    have e : getL L' id = L'.getD (posL L' id) dBk := by unfold getL; rw [if_pos HH.out]
                    rw [← HBS.out.2.2.1, e, HBS.out.2.2.2.1, ← s1, abs_getD]
                    rfl
                  rw [hdd] at e6 l6
                  rw [HBS.out.2.1] at e6 l6
                  have H15 : Hid (∀ W, Chg no w11 W → Calls Try.prog 15 #[.slice ga gl gb, .slice ab2 gl cb2] W fun e w' => e = .returned (.bool true) ∧ w' = W) := by
                    intro W k
                    have := bytes_any (Lies.later lG k) (Lies.later l6 k) HBS.out.1 HBS.out.1
                    rw [decide_eq_true (rfl : gd = gd)] at this
                    exact this
                  have hpi : (P : Int) < (n2 : Int) := by omega
                  have hp0 : (0 : Int) ≤ (P : Int) := by omega
                  have tn : ((P : Int)).toNat = P := by omega
                  have HCl : Hid (∀ W, Chg no w11 W → W.cell? ⟨Q, 0, none⟩ = some (.int .i64 id) ∧ W.cell? ⟨q, 0, none⟩ = some (.slice (some y) n2 gc) ∧ W.cell? ⟨q, 1, none⟩ = some (.int .i64 (m' : Int)) ∧ W.cell? ⟨(y.add (P * 2)).block, (y.add (P * 2)).off + 1, none⟩ = some (.slice ab2 gl cb2)) := by
                    intro W k
                    obtain ⟨_, c1, c2, _⟩ := s7 W k
                    exact ⟨(HA11.out.same k).cells.1, c1, c2, k.cell e6 (fun h => h)⟩
                  clear hdd l6 b6 e5 e6 hbk hpl
                  clear lG A11 s1 s2 s3 s4 s5 s6 s7 HBS HH
                  go_wp2_with fail
                  obtain ⟨pK, hpK⟩ : ∃ pK : World → Prop, ∀ w', pK w' ↔ Chg no w11 w' := ⟨_, fun _ => Iff.rfl⟩
                  have xK0 : ∀ x' : far.InC pK, x'.w.cell? ⟨Q, 0, none⟩ = some (.int .i64 id) := fun x => (HCl.out _ ((hpK _).1 x.h)).1
                  have xK1 : ∀ x' : far.InC pK, x'.w.cell? ⟨q, 0, none⟩ = some (.slice (some y) n2 gc) := fun x => (HCl.out _ ((hpK _).1 x.h)).2.1
                  have xK2 : ∀ x' : far.InC pK, x'.w.cell? ⟨q, 1, none⟩ = some (.int .i64 (m' : Int)) := fun x => (HCl.out _ ((hpK _).1 x.h)).2.2.1
                  have xK3 : ∀ x' : far.InC pK, x'.w.cell? ⟨(y.add (P * 2)).block, (y.add (P * 2)).off + 1, none⟩ = some (.slice ab2 gl cb2) := fun x => (HCl.out _ ((hpK _).1 x.h)).2.2.2
                  have iK : Nonempty (far.InC pK) := ⟨⟨w11, (hpK _).2 (Chg.refl no w11)⟩⟩
                  have HpK : Hid (∀ w', pK w' ↔ Chg no w11 w') := hpK
                  have Y0 : Chg no w11 w11.drew := (Chg.refl no w11).drew
                  clear hpK HCl
                  simp only [List.append_eq, List.cons_append, List.nil_append]
                  refine far.region_farM (fun κ w' => pK w') [12, 28, 34, 44, 53, 55, 56, 61, 62, 67] (by kernel_rfl) (by kernel_rfl) ((HpK.out _).2 Y0) ?_
                  intro L e1' e2' e3'
                  refine far.farO_stretch pK 12 0 10 e1' e2' e3' (by kernel_rfl) (by kernel_rfl) (fun κ w' hk1 hk2 hC => hC) ?_
                  simp only [List.take_succ_cons, List.take_zero, List.drop_succ_cons, List.drop_zero, Nat.reduceAdd]
                  repeat (go_big_quiet_step (fail))
                  refine wpQuiet_nil ?_
                  refine far.farO_enter e1' e2' 0 rfl rfl 18 #[pt p, .int .i64 id] (by kernel_rfl) (by kernel_rfl) ?_
                  refine (H18.out _ Y0).mono ?_
                  rintro e w12 ⟨rfl, k12⟩
                  refine ⟨_, rfl, (HpK.out _).2 k12, ?_⟩
                  simp only [Act.put, List.setIfInBounds_toArray, List.set_cons_succ, List.set_cons_zero, Nat.reduceAdd]
                  refine far.farO_stretch pK 15 0 10 e1' e2' e3' (by kernel_rfl) (by kernel_rfl) (fun κ w' hk1 hk2 hC => hC) ?_
                  simp only [List.take_succ_cons, List.take_zero, List.drop_succ_cons, List.drop_zero, Nat.reduceAdd]
                  repeat (go_big_quiet_step (fail))
                  refine wpQuiet_nil ?_
                  refine far.farO_enter e1' e2' 1 rfl rfl 15 #[.slice ga gl gb, .slice ab2 gl cb2] (by kernel_rfl) (by kernel_rfl) ?_
                  refine (H15.out _ k12).mono ?_
                  rintro e w13 ⟨rfl, rfl⟩
                  refine ⟨_, rfl, (HpK.out _).2 k12, ?_⟩
                  simp only [Act.put, List.setIfInBounds_toArray, List.set_cons_succ, List.set_cons_zero, Nat.reduceAdd]
                  refine far.farO_stretch pK 5 0 10 e1' e2' e3' (by kernel_rfl) (by kernel_rfl) (fun κ w' hk1 hk2 hC => hC) ?_
                  simp only [List.take_succ_cons, List.take_zero, List.drop_succ_cons, List.drop_zero, Nat.reduceAdd]
                  repeat (go_big_quiet_step (fail))
                  refine wpQuiet_nil ?_
                  refine far.farO_enter e1' e2' 2 rfl rfl 19 #[pt p] (by kernel_rfl) (by kernel_rfl) ?_
                  refine (H19.out _ k12).mono ?_
                  rintro e w14 ⟨rfl, rfl⟩
                  refine ⟨_, rfl, (HpK.out _).2 k12, ?_⟩
                  simp only [Act.put, List.setIfInBounds_toArray, List.set_cons_succ, List.set_cons_zero, Nat.reduceAdd]
                  refine far.farO_stretch pK 9 0 10 e1' e2' e3' (by kernel_rfl) (by kernel_rfl) (fun κ w' hk1 hk2 hC => hC) ?_
                  simp only [List.take_succ_cons, List.take_zero, List.drop_succ_cons, List.drop_zero, Nat.reduceAdd]
                  repeat (go_big_quiet_step (fail))
                  refine wpQuiet_nil ?_
                  refine far.farO_enter e1' e2' 3 rfl rfl 20 #[pt p] (by kernel_rfl) (by kernel_rfl) ?_
                  refine (H20.out _ k12).mono ?_
                  rintro e w15 ⟨rfl, rfl⟩
                  refine ⟨_, rfl, (HpK.out _).2 k12, ?_⟩
                  simp only [Act.put, List.setIfInBounds_toArray, List.set_cons_succ, List.set_cons_zero, Nat.reduceAdd]
                  refine far.farO_stretch pK 8 0 10 e1' e2' e3' (by kernel_rfl) (by kernel_rfl) (fun κ w' hk1 hk2 hC => hC) ?_
                  simp only [List.take_succ_cons, List.take_zero, List.drop_succ_cons, List.drop_zero, Nat.reduceAdd]
                  repeat (go_big_quiet_step (fail))
                  refine wpQuiet_nil ?_
                  refine far.farO_enter e1' e2' 4 rfl rfl 22 #[pt p] (by kernel_rfl) (by kernel_rfl) ?_
                  refine (H22.out _ k12).mono ?_
                  rintro e w16 ⟨ia, ic, rfl, k16, h23⟩
                  refine ⟨_, rfl, (HpK.out _).2 k16, ?_⟩
                  simp only [Act.put, List.setIfInBounds_toArray, List.set_cons_succ, List.set_cons_zero, Nat.reduceAdd]
                  refine far.farO_stretch pK 1 0 10 e1' e2' e3' (by kernel_rfl) (by kernel_rfl) (fun κ w' hk1 hk2 hC => hC) ?_
                  simp only [List.take_succ_cons, List.take_zero, List.drop_succ_cons, List.drop_zero, Nat.reduceAdd]
                  repeat (go_big_quiet_step (fail))
                  refine wpQuiet_nil ?_
                  refine far.farO_enter e1' e2' 5 rfl rfl 23 #[pt q] (by kernel_rfl) (by kernel_rfl) ?_
                  refine (h23).mono ?_
                  rintro e w17 ⟨ja, jc, rfl, k17, h21⟩
                  refine ⟨_, rfl, (HpK.out _).2 k17, ?_⟩
                  simp only [Act.put, List.setIfInBounds_toArray, List.set_cons_succ, List.set_cons_zero, Nat.reduceAdd]
                  refine far.farO_enter e1' e2' 6 rfl rfl 21 #[.slice ia n2 ic, .slice ja n2 jc] (by kernel_rfl) (by kernel_rfl) ?_
                  refine (h21).mono ?_
                  rintro e w18 ⟨rfl, k18⟩
                  refine ⟨_, rfl, (HpK.out _).2 k18, ?_⟩
                  simp only [Act.put, List.setIfInBounds_toArray, List.set_cons_succ, List.set_cons_zero, Nat.reduceAdd]
                  refine far.farO_stretch pK 4 0 10 e1' e2' e3' (by kernel_rfl) (by kernel_rfl) (fun κ w' hk1 hk2 hC => hC) ?_
                  simp only [List.take_succ_cons, List.take_zero, List.drop_succ_cons, List.drop_zero, Nat.reduceAdd]
                  repeat (go_big_quiet_step (fail))
                  refine wpQuiet_nil ?_
                  refine far.farO_enter e1' e2' 7 rfl rfl 26 #[pt p] (by kernel_rfl) (by kernel_rfl) ?_
                  refine (H26.out _ k18).mono ?_
                  rintro e w19 ⟨la, ll, lc, rfl, k19, h25⟩
                  refine ⟨_, rfl, (HpK.out _).2 k19, ?_⟩
                  simp only [Act.put, List.setIfInBounds_toArray, List.set_cons_succ, List.set_cons_zero, Nat.reduceAdd]
                  refine far.farO_enter e1' e2' 8 rfl rfl 25 #[.slice la ll lc] (by kernel_rfl) (by kernel_rfl) ?_
                  refine (h25).mono ?_
                  rintro e w20 ⟨lv, rfl, k20, h24⟩
                  refine ⟨_, rfl, (HpK.out _).2 k20, ?_⟩
                  simp only [Act.put, List.setIfInBounds_toArray, List.set_cons_succ, List.set_cons_zero, Nat.reduceAdd]
                  refine far.farO_stretch pK 4 0 10 e1' e2' e3' (by kernel_rfl) (by kernel_rfl) (fun κ w' hk1 hk2 hC => hC) ?_
                  simp only [List.take_succ_cons, List.take_zero, List.drop_succ_cons, List.drop_zero, Nat.reduceAdd]
                  repeat (go_big_quiet_step (fail))
                  refine wpQuiet_nil ?_
                  refine far.farO_enter e1' e2' 9 rfl rfl 24 #[lv, .slice (some y) n2 gc] (by kernel_rfl) (by kernel_rfl) ?_
                  refine (h24).mono ?_
                  rintro e w21 ⟨rfl, k21⟩
                  refine ⟨_, rfl, (HpK.out _).2 k21, ?_⟩
                  simp only [Act.put, List.setIfInBounds_toArray, List.set_cons_succ, List.set_cons_zero, Nat.reduceAdd]
                  refine far.farO_stretch pK 2 0 10 e1' e2' e3' (by kernel_rfl) (by kernel_rfl) (fun κ w' hk1 hk2 hC => hC) ?_
                  simp only [List.take_succ_cons, List.take_zero, List.drop_succ_cons, List.drop_zero, Nat.reduceAdd]
                  repeat (go_big_quiet_step (fail))
                  refine wpQuiet_nil ?_
                  refine far.farO_nil ?_
                  go_wp2
                  go_roundw
                  case rel => exact ⟨j + 1, L', m', by omega, by go_num, HA11.out.drop.same k21⟩
                  case measure => simp [intOf]; omega
        · obtain rfl : j = m := by omega
          have hji : (j : Int) ≤ (j : Int) := by omega
          have HK2 : Hid (Chg no w wr) := hA.chg
          clear hA
          go_wp2_with fail
          refine (HF wr).mono ?_
          rintro e w9 ⟨rfl, k9⟩
          go_wp2
          go_ret
          exact ⟨rfl, (HK2.out.then k9).below⟩

theorem own : ownKnob Try.prog.godebug = none := by kernel_rfl
theorem laidOut : laidOutB Try.prog = true := by kernel_rfl

set_option maxRecDepth 100000 in
theorem lifted (os : Os) (started : os.Started) (H : Type) (enc : TypeId × Value → H) :
    ReturnsInHanded {} Try.checked os 3 .any (Rows.stashPlaysSpec.pre6 enc Try.prog Try.f3 Rows.stashPlaysRow.domain false) (Rows.stashPlaysSpec.post enc Try.prog Try.f3 false true false false) := by
  refine returnsInHanded_of_change (C := Try.checked) own started (by kernel_rfl) Try.func3
    (ChangeSpec.witness6 (enc := enc) (C := Try.checked) false ⟨#[], #[.slice none 0 0, .slice none 0 0], []⟩ 8 (by kernel_rfl) (by kernel_rfl) (by kernel_rfl) (by kernel_rfl)) ?_
  intro W base args ds gs before hval0 hW hcnd _
  have hval : ∀ (j : Nat) t v, Try.f3.params[j]? = some t → args[j]? = some v → Value.okWide Try.prog W .any base t v := hval0
  have hW' := hW
  obtain ⟨p, q, hA0, hV, rfl, hfz, hnd⟩ := hW
  have hA : DataW.TrodAll enc Try.prog W 0 (fun _ => true) true Try.f3.params.toList args.toList ds p := hA0
  rw [Try.params3] at hA hval
  obtain ⟨v0, vs0, d0, ds0, p0, q0, hargs, rfl, rfl, h0, r0⟩ := trodAll_cons hA
  obtain ⟨v1, vs1, d1, ds1, p1, q1, rfl, rfl, rfl, h1, r1⟩ := trodAll_cons r0
  obtain ⟨rfl, rfl, rfl⟩ := trodAll_nil r1
  obtain rfl : args = #[v0, v1] := by cases args; simp_all
  obtain ⟨rfl, rfl⟩ := trodVars_none hV
  obtain ⟨a0, len0, cap0, rfl⟩ := okWide_slice Try.underlying22 (hval 0 22 v0 rfl rfl)
  have k0 := h0
  have lt0 : ∀ x ∈ p0, x.block < W.heap.size := by obtain ⟨m, hm⟩ := k0; exact DataW.trod_lt m _ _ _ hm
  have c0 : len0 ≤ cap0 ∧ cap0 ≤ maxLen := by obtain ⟨m, hm⟩ := k0; exact open_cap Try.underlying22 hm
  obtain ⟨z0, w0⟩ := (by obtain ⟨fuel, hf⟩ := h0; exact open_blocks hf : ∃ z : List BV, z.length = len0 ∧ Bks W (.slice a0 len0 cap0) z)
  obtain ⟨a1, len1, cap1, rfl⟩ := okWide_slice Try.underlying23 (hval 1 23 v1 rfl rfl)
  have k1 := h1
  have lt1 : ∀ x ∈ p1, x.block < W.heap.size := by obtain ⟨m, hm⟩ := k1; exact DataW.trod_lt m _ _ _ hm
  have c1 : len1 ≤ cap1 ∧ cap1 ≤ maxLen := by obtain ⟨m, hm⟩ := k1; exact open_cap Try.underlying23 hm
  obtain ⟨z1, w1⟩ := (by obtain ⟨fuel, hf⟩ := h1; exact open_ops hf : ∃ z : Nat → OpA, OpsAt W a1 len1 z)
  clear hA0 hval0
  refine (walk W a0 len0 cap0 z0 a1 len1 cap1 z1 w0 c0 w1 c1).mono fun e W' ⟨he, bel⟩ => ?_
  subst he
  exact ⟨_, rfl, _, _, _, [], _, [], hW', trodAll_mk1 (shut_bool Try.underlying4 _), (trodAll_cons_mk (Below.trod laidOut (by kernel_rfl) (of_decide_eq_true (by kernel_rfl)) k0 bel lt0) (trodAll_cons_mk (Below.trod laidOut (by kernel_rfl) (of_decide_eq_true (by kernel_rfl)) k1 bel lt1) trodAll_mk0)), rfl, bel.frame _, fun h => by cases h⟩

theorem over : Rows.stashPlaysRow.holds Try.pinned (OpenSpec.ofChange Rows.stashPlaysSpec) :=
  OpenClaim.holds_of_wide 3 Try.f3 rfl rfl rfl rfl rfl rfl rfl ⟨rfl, rfl, rfl, rfl, rfl⟩ rfl rfl rfl rfl rfl (by kernel_rfl) Try.func3 (by kernel_rfl)
    (of_decide_eq_true (by kernel_rfl)) (by unfold Func.isWrapper; first | (rw [if_pos (by decide +kernel)]; kernel_rfl) | (rw [if_neg (by decide +kernel)]; exact ⟨rfl, rfl⟩))
    (fun os started H enc _ => lifted os started H enc)

theorem proved : Rows.StashPlaysSaid := over
end Go.Proofs.Ytedhlidmmmlemaa.stashPlays
namespace Go.Proofs.Ytedhlidmmmlemaa
theorem stashPlays_holds : Rows.StashPlaysSaid := stashPlays.proved
#print axioms stashPlays_holds
end Go.Proofs.Ytedhlidmmmlemaa
