/-
  Proved: for every list of parts and every number the law SlabWrites returns true and leaves its arguments as they were; no condition.
-/
import Derived.Test.YtleimdlpcgpjfaaWritesS
import Derived.Below
namespace Go.Proofs.Ytleimdlpcgpjfaa.slabWrites
open Go.ChangeShapes Go.WideShapes Go.ChangeAt Go.RowKit Go.Proofs.Ytleimdlpcgpjfaa.hp Go.Proofs.Ytleimdlpcgpjfaa.dg Go.Proofs.Ytleimdlpcgpjfaa.st
set_option linter.unusedVariables false

set_option maxRecDepth 100000 in
set_option maxHeartbeats 16000000 in
theorem walk (w : World) (a0 : Option Addr) (len0 cap0 : Nat) (O : Nat → PA) (n : Int) (A0 : PartsAt w a0 len0 O) (c0 : len0 ≤ cap0) (w1 : (Lit.int .i64 n).wf = true) :
    Calls Try.prog 3 #[.slice a0 len0 cap0, .int .i64 n] w fun e w' => e = .returned (.bool true) ∧ Below w.heap.size w w' := by
  have FW : ∀ w', Chg no w w' → Calls Try.prog 10 #[.slice a0 len0 cap0] w' (FewRes len0 O w') := fun w' c => few_any (parts_later A0 c) cap0
  have HO : Hid (PartsAt w a0 len0 O) := A0
  clear A0 c0 w1
  go_enter Try.func3, Try.ntmps3
  go_wp2_with fail
  refine (first_any _).mono ?_
  rintro e w1 ⟨rfl, k1⟩
  go_wp2_with fail
  refine (FW _ k1).mono ?_
  rintro e w2 ⟨b2, rfl, hb2, rfl⟩
  clear FW
  by_cases hbad : b2 = false ∨ 40000 < n
  · have hc : b2 = false ∨ (b2 = true ∧ 40000 < n) := by
      cases b2 <;> simp at hbad ⊢ <;> omega
    clear hbad hb2
    rcases hc with rfl | ⟨rfl, h1⟩
    all_goals
      go_wp2_with fail
      refine (first_any _).mono ?_
      rintro e w3 ⟨rfl, k3⟩
      go_wp2
      go_ret
      exact ⟨rfl, (k1.then k3).below⟩
  obtain rfl : b2 = true := by cases b2 <;> simp at hbad ⊢
  have hn : n ≤ 40000 := by simp at hbad; omega
  have HF : Hid (FewIs len0 O) := hb2 rfl
  clear hb2 hbad
  have hl200 : len0 ≤ 200 := HF.out.1
  obtain ⟨i0, hi0, hz0, hz1, hz2⟩ := info_parts info5
  go_upto_block 0 with fail
  have B0 := Both.new k1
  obtain ⟨w4, hw4⟩ : ∃ w4, w2.alloc (.cells #[.slice none 0 0, .bool false] 28) = w4 := ⟨_, rfl⟩
  rw [hw4] at B0
  obtain ⟨p, hp⟩ : ∃ p, w2.heap.size = p := ⟨_, rfl⟩
  rw [hp] at B0
  simp only [hw4, hp]
  clear hw4 hp k1
  go_cut [6, 7] from 8 to 94 (fun v b wc => b = .bool (wsAt O len0).2 ∧ Both w p (wsAt O len0) v (wsAt O len0).1 wc)
  case first =>
    go_wp2_with fail
    go_loopw [6, 7, 8] (fun v b i wr => ∃ j : Nat, j ≤ len0 ∧ i = .int .i64 (j : Int) ∧ b = .bool (wsAt O j).2 ∧ Both w p (wsAt O j) v (wsAt O j).1 wr) (fun _ _ i _ => len0 - (intOf i).toNat)
    case atStart => exact ⟨0, by omega, rfl, rfl, B0⟩
    case round =>
      clear B0
      obtain ⟨j, hj, rfl, rfl, hB⟩ := hrel
      obtain ⟨va, vc, hva⟩ := hB.shape
      subst hva
      by_cases hjn : j < len0
      · have hji : (j : Int) < len0 := by omega
        obtain ⟨x, ab, cb, rfl, e0, e1, e2, l2, hby, hold⟩ := HO.out.at (Chg.refl no w) j hjn
        have hz : (O j).zs.length ≤ 20000 := HF.out.2 j hjn
        have hlen : (wsAt O j).1.length ≤ 10000000 := by
          have := wsAt_len HF.out.2 j hj
          omega
        have HST : Hid (wsAt O (j + 1) = if (O j).wd = 0 then raws (wsAt O j) [(O j).zs] else nums (O j).wd (wsAt O j) [(O j).n]) := rfl
        obtain ⟨o, ho⟩ : ∃ o, O j = o := ⟨_, rfl⟩
        rw [ho] at e0 e1 e2 HST l2 hz
        obtain ⟨wd, N, bv, zs⟩ := o
        simp only at e0 e1 e2 HST l2 hz
        clear hby ho
        have HE : Hid (∀ w', Chg no w w' → w'.cell? (x.add (j * 3)) = some (.int .i64 wd) ∧ w'.cell? ⟨(x.add (j * 3)).block, (x.add (j * 3)).off + 1, none⟩ = some (.int .i64 N) ∧ w'.cell? ⟨(x.add (j * 3)).block, (x.add (j * 3)).off + 2, none⟩ = some (.slice ab zs.length cb) ∧ Lies (Old w) w' (.slice ab zs.length cb) (zs.map (Value.int .u8)) ∧ (x.add (j * 3)).block < w'.heap.size) :=
          fun w' c => ⟨c.cell e0 id, c.cell e1 id, c.cell e2 id, l2.chg c (fun _ _ h => h), Nat.lt_of_lt_of_le hold c.size⟩
        clear e0 e1 e2 l2 hold
        obtain ⟨e0, e1, e2, l2, hltb⟩ := HE.out wr hB.chg
        obtain ⟨⟨bs, br⟩, hS⟩ : ∃ S, wsAt O j = S := ⟨_, rfl⟩
        rw [hS] at hB hlen HST
        simp only [hS]
        simp only at hB hlen
        clear hS
        have hleni : (bs.length : Int) ≤ 10000000 := by omega
        by_cases hw : wd = 0
        · subst hw
          rw [if_pos rfl] at HST
          have HR := hB.raw l2 hlen (by omega)
          cases br with
          | true =>
            have e : raws (bs, true) [zs] = (bs, true) := by simp [raws]
            rw [e] at HR HST
            clear hB l2
            go_wp2_with fail
            refine HR.mono ?_
            rintro e w5 ⟨rfl, hP⟩
            obtain ⟨F5, hW5⟩ := hP.wri
            have LN := len_any hW5
            clear HR hW5
            go_wp2_with fail
            refine LN.mono ?_
            rintro e w6 ⟨rfl, rfl⟩
            clear LN
            go_wp2
            go_roundw
            case rel => exact ⟨j + 1, by omega, by go_num, by rw [HST.out], by rw [HST.out]; exact hP⟩
            case measure => simp [intOf]; omega
          | false =>
            have e : raws (bs, false) [zs] = (bs ++ zs, false) := by simp [raws]
            rw [e] at HR HST
            clear hB l2
            go_wp2_with fail
            refine HR.mono ?_
            rintro e w5 ⟨rfl, hP⟩
            obtain ⟨f0, f1, f2, m2, hlt5⟩ := HE.out w5 hP.chg
            have HOw : Hid (w5.ownsRow 0 5 1 (.slice va bs.length vc) bs.length (bs.map (Value.int .u8))) := hP.own
            have HLs : Hid (Lies (Old w) w5 (.slice ab zs.length cb) (zs.map (Value.int .u8))) := m2
            have HEnd : Hid (∀ v6 w6, Grew 5 w5 w6 (.slice va bs.length vc) v6 bs.length (bs.map (Value.int .u8)) (zs.map (Value.int .u8)) → Both w p (bs ++ zs, false) v6 (bs ++ zs) w6) := fun v6 w6 gr => hP.grew gr
            clear HR hP m2
            go_wp2_with (at_builtin; refine wpList_append_grew rfl _ _ 26 rfl 5 i0 (.int .u8 0) 1 Try.underlying26 hi0 hz0 hz1 hz2 rfl (.slice va bs.length vc) bs.length (bs.map (Value.int .u8)) rfl HOw.out (Old w) (.slice ab zs.length cb) (zs.map (Value.int .u8)) rfl HLs.out (ints_oneCell _ _) ?c1 ?c2 ?_)
            case c1 => simp only [List.length_map]; unfold maxLen; omega
            case c2 => simp only [List.length_map]; omega
            intro v6 w6 gr
            have y6 := HEnd.out _ _ gr
            obtain ⟨xa, xc, rfl⟩ := y6.shape
            obtain ⟨F5, hW5⟩ := y6.wri
            have LN := len_any hW5
            simp only at LN
            obtain ⟨Z, hZ⟩ : ∃ Z, bs ++ zs = Z := ⟨_, rfl⟩
            rw [hZ] at y6 HST LN
            simp only [hZ]
            clear HEnd gr hW5 hZ
            go_wp2_with fail
            refine LN.mono ?_
            rintro e w7 ⟨rfl, rfl⟩
            clear LN
            go_wp2
            go_roundw
            case rel => exact ⟨j + 1, by omega, by go_num, by rw [HST.out], by rw [HST.out]; exact y6⟩
            case measure => simp [intOf]; omega
        · have hwb : (wd == 0) = false := by simpa using hw
          rw [if_neg hw] at HST
          have HNN : Hid (∀ (w1 : World) (g : Nat), Chg no wr w1 → w1.heap[g]? = some (.cells #[.int .i64 N] 3 (0, 0)) → wr.heap.size ≤ g → Calls Try.prog 12 #[.pointer (some ⟨p, 0, none⟩), .int .i64 wd, .slice (some ⟨g, 0, none⟩) 1 1] w1 fun e w' => e = .returned (.pointer (some ⟨p, 0, none⟩)) ∧ Both w p (nums wd (bs, br) [N]) (.slice va bs.length vc) bs w') :=
            fun w1 g k1 hg hgn => hB.num k1 wd N hg hgn hlen
          rw [nums_put] at HST HNN
          simp only at HST HNN
          clear hB l2
          go_wp2_with fail
          go_region_with (go_at_call 12; refine (HNN.out _ _ ((Chg.refl no _).alloc _).drew (heap_alloc_new wr _) (Nat.le_refl _)).mono ?_; rintro e w5 ⟨rfl, hP⟩)
          all_goals
            obtain ⟨f0, f1, f2, m2, hlt5⟩ := HE.out w5 hP.chg
            have HP := (hP.same (Chg.refl no w5).drew).put wd N hlen
            clear HNN hP m2
            obtain ⟨pG, hpG⟩ : ∃ pG : World → Prop, ∀ w', pG w' ↔ (w'.cell? (x.add (j * 3)) = some (.int .i64 wd) ∧ w'.cell? ⟨(x.add (j * 3)).block, (x.add (j * 3)).off + 1, none⟩ = some (.int .i64 N)) := ⟨_, fun _ => Iff.rfl⟩
            obtain ⟨pT, hpT⟩ : ∃ pT : World → Prop, ∀ w', pT w' ↔ True := ⟨_, fun _ => Iff.rfl⟩
            have hx0 : ∀ x' : far.InC pG, x'.w.cell? (x.add (j * 3)) = some (.int .i64 wd) := fun x => ((hpG _).1 x.h).1
            have hx1 : ∀ x' : far.InC pG, x'.w.cell? ⟨(x.add (j * 3)).block, (x.add (j * 3)).off + 1, none⟩ = some (.int .i64 N) := fun x => ((hpG _).1 x.h).2
            have iG : Nonempty (far.InC pG) := ⟨⟨w5, (hpG _).2 ⟨f0, f1⟩⟩⟩
            have iT : Nonempty (far.InC pT) := ⟨⟨w5, (hpT _).2 trivial⟩⟩
            have HpT : Hid (∀ w', pT w' ↔ True) := hpT
            have HYG : Hid (pG w5.drew) := (hpG _).2 ⟨f0, f1⟩
            clear hpG hpT
            go_wp2_with fail
            refine far.region_farM (fun κ w' => κ ≤ 0 → pG w') [11] (by kernel_rfl) (by kernel_rfl) (fun _ => HYG.out) ?_
            intro L e1' e2' e3'
            refine far.farO_stretch pG 11 0 0 e1' e2' e3' (by kernel_rfl) (by kernel_rfl) (fun κ w' hk1 hk2 hC => hC (by omega)) ?_
            simp only [List.take_succ_cons, List.take_zero, List.drop_succ_cons, List.drop_zero, Nat.reduceAdd]
            repeat (go_big_quiet_step (fail))
            refine wpQuiet_nil ?_
            refine far.farO_enter e1' e2' 0 rfl rfl 13 #[.slice va bs.length vc, .int .i64 wd, .int .i64 N] (by kernel_rfl) (by kernel_rfl) ?_
            refine HP.mono ?_
            rintro e w6 ⟨xp, cp, rfl, hP1, hP2⟩
            refine ⟨_, rfl, fun h => by omega, ?_⟩
            simp only [Act.put, List.setIfInBounds_toArray, List.set_cons_succ, List.set_cons_zero, Nat.reduceAdd]
            refine far.farO_stretch pT 5 1 1 e1' e2' e3' (by kernel_rfl) (by kernel_rfl) (fun κ w' hk1 hk2 hC => (HpT.out _).2 trivial) ?_
            simp only [List.take_succ_cons, List.take_zero, List.drop_succ_cons, List.drop_zero, Nat.reduceAdd]
            repeat (go_big_quiet_step (fail))
            refine wpQuiet_nil ?_
            refine far.farO_nil ?_
            clear hx0 hx1 HP HYG HpT
            obtain ⟨Q, hQ⟩ : ∃ Q, putS bs wd N = Q := ⟨_, rfl⟩
            obtain ⟨K, hK⟩ : ∃ K, okN wd N = K := ⟨_, rfl⟩
            simp only [hQ, hK] at hP1 hP2 HST ⊢
            clear hQ hK
            cases br with
            | true =>
              simp only [if_true] at hP2 HST
              obtain ⟨F6, hW6⟩ := hP2.wri
              have LN := len_any hW6
              clear hP1 hW6
              simp only at LN
              cases K
              all_goals
                go_wp2_with fail
                refine LN.mono ?_
                rintro e w7 ⟨rfl, rfl⟩
                clear LN
                go_wp2
                go_roundw
                case rel => exact ⟨j + 1, by omega, by go_num, by rw [HST.out], by rw [HST.out]; exact hP2⟩
                case measure => simp [intOf]; omega
            | false =>
              simp only [Bool.false_eq_true, if_false] at hP1 HST
              obtain ⟨F6, hW6⟩ := hP1.wri
              have LN := len_any hW6
              clear hP2 hW6
              simp only at LN
              cases K
              all_goals
                go_wp2_with fail
                refine LN.mono ?_
                rintro e w7 ⟨rfl, rfl⟩
                clear LN
                go_wp2
                go_roundw
                case rel => exact ⟨j + 1, by omega, by go_num, by rw [HST.out]; rfl, by rw [HST.out]; exact hP1⟩
                case measure => simp [intOf]; omega
      · obtain rfl : j = len0 := by omega
        have hji : (j : Int) ≤ (j : Int) := by omega
        have HB : Hid (Both w p (wsAt O j) (.slice va (wsAt O j).1.length vc) (wsAt O j).1 wr) := hB
        clear hB
        go_wp2
        go_meet
        case rel => exact ⟨rfl, HB.out⟩
  case rest =>
    clear B0
    obtain ⟨rfl, hB⟩ := hcut
    obtain ⟨⟨bs, br⟩, hS⟩ : ∃ S, wsAt O len0 = S := ⟨_, rfl⟩
    have hbl := wsAt_len HF.out.2 len0 (Nat.le_refl _)
    rw [hS] at hB hbl
    simp only [hS]
    simp only at hB hbl
    clear hS
    obtain ⟨va, vc, hva⟩ := hB.shape
    subst hva
    have K : Chg no w wc := hB.chg
    obtain ⟨F, hW⟩ := hB.wri
    simp only at hW
    have hbi : (bs.length : Int) ≤ 5000000 := by omega
    by_cases hr : br = true ∨ n < 0
    · have SR := sealed_range hW n (by rcases hr with h | h; exact .inl h; exact .inr (.inl h))
      have hc : br = true ∨ (br = false ∧ n < 0) := by cases br <;> simp at hr ⊢; exact hr
      clear hr hW hB
      rcases hc with rfl | ⟨rfl, h1⟩
      all_goals
        go_wp2_with fail
        refine SR.mono ?_
        rintro e w5 ⟨rfl, rfl⟩
        clear SR
        go_wp2_with fail
        refine (first_any _).mono ?_
        rintro e w6 ⟨rfl, k6⟩
        go_wp2
        go_ret
        exact ⟨rfl, (K.then k6).below⟩
    · obtain rfl : br = false := by cases br <;> simp at hr ⊢
      obtain ⟨k, rfl⟩ := Int.eq_ofNat_of_zero_le (show 0 ≤ n by simp at hr; omega)
      clear hr
      by_cases hf : (k : Int) < bs.length
      · have SF := sealed_full hW k (by omega) (by omega) hf
        clear hW hB
        go_wp2_with fail
        refine SF.mono ?_
        rintro e w5 ⟨rfl, rfl⟩
        clear SF
        go_wp2_with fail
        refine (first_any _).mono ?_
        rintro e w6 ⟨rfl, k6⟩
        go_wp2
        go_ret
        exact ⟨rfl, (K.then k6).below⟩
      · have hle : bs.length ≤ k := by omega
        have hlei : (bs.length : Int) ≤ k := by omega
        have SO := sealed_ok hW k (by omega) hle
        have hfl := fill_length bs k hle
        have HB : Hid (Both w p (bs, false) (.slice va bs.length vc) bs wc) := hB
        clear hW hB hf
        go_wp2_with fail
        refine SO.mono ?_
        rintro e w5 ⟨rfl, g5, k5⟩
        clear SO
        go_wp2_with fail
        refine (first_any _).mono ?_
        rintro e w6 ⟨rfl, k6⟩
        have RF := rfill_any w6 (.slice va bs.length vc) bs k (Lies.of_owns (J := fun _ => True) ((HB.out.same (k5.then k6)).own) (fun _ _ => trivial)) hle (by omega)
        have g6 := k6.heap g5 id
        clear g5
        go_wp2_with fail
        refine RF.mono ?_
        rintro e w7 ⟨rfl, g7, k7⟩
        have q1 := block_lies (k7.heap g6 id)
        have q2 := block_lies g7
        rw [hfl] at q1 q2
        have BY := bytes_same q1 q2
        clear RF g6 g7 q1 q2
        go_wp2_with fail
        refine BY.mono ?_
        rintro e w8 ⟨rfl, rfl⟩
        clear BY
        go_wp2
        go_ret
        exact ⟨rfl, (((K.then k5).then k6).then k7).below⟩

theorem own : ownKnob Try.prog.godebug = none := by kernel_rfl
theorem laidOut : laidOutB Try.prog = true := by kernel_rfl

set_option maxRecDepth 100000 in
theorem lifted (os : Os) (started : os.Started) (H : Type) (enc : TypeId × Value → H) :
    ReturnsInHanded {} Try.checked os 3 .any (Rows.slabWritesSpec.pre6 enc Try.prog Try.f3 Rows.slabWritesRow.domain false) (Rows.slabWritesSpec.post enc Try.prog Try.f3 false true false false) := by
  refine returnsInHanded_of_change (C := Try.checked) own started (by kernel_rfl) Try.func3
    (ChangeSpec.witness6 (enc := enc) (C := Try.checked) false ⟨#[], #[.slice none 0 0, .int .i64 0], []⟩ 8 (by kernel_rfl) (by kernel_rfl) (by kernel_rfl) (by kernel_rfl)) ?_
  intro W base args ds gs before hval0 hW hcnd _
  have hval : ∀ (j : Nat) t v, Try.f3.params[j]? = some t → args[j]? = some v → Value.okWide Try.prog W .any base t v := hval0
  have hW' := hW
  obtain ⟨p, q, hA0, hV, rfl, hfz, hnd⟩ := hW
  have hA : DataW.TrodAll enc Try.prog W 0 (fun _ => true) true Try.f3.params.toList args.toList ds p := hA0
  rw [Try.params3] at hA hval
  obtain ⟨v0, vs0, d0, ds0, p0, q0, hargs, rfl, rfl, h0, r0⟩ := trodAll_cons hA
  obtain ⟨v1, vs1, d1, ds1, p1, q1, rfl, rfl, rfl, h1, r1⟩ := trodAll_cons r0
  obtain ⟨rfl, rfl, rfl⟩ := trodAll_nil r1
  obtain rfl : args = #[v0, v1] := by cases args; simp_all
  obtain ⟨rfl, rfl⟩ := trodVars_none hV
  obtain ⟨a0, len0, cap0, rfl⟩ := okWide_slice Try.underlying22 (hval 0 22 v0 rfl rfl)
  have k0 := h0
  have lt0 : ∀ x ∈ p0, x.block < W.heap.size := by obtain ⟨m, hm⟩ := k0; exact DataW.trod_lt m _ _ _ hm
  have c0 : len0 ≤ cap0 := by obtain ⟨m, hm⟩ := k0; exact (open_cap Try.underlying22 hm).1
  obtain ⟨O0, w0⟩ := (by obtain ⟨fuel, hf⟩ := h0; exact open_parts hf : ∃ z : Nat → PA, PartsAt W a0 len0 z)
  obtain ⟨a1, rfl, rfl, rfl, w1⟩ := open_int Try.underlying3 (hval 1 3 v1 rfl rfl) h1
  clear hA0 hval0
  refine (walk W a0 len0 cap0 O0 a1 w0 c0 w1).mono fun e W' ⟨he, bel⟩ => ?_
  subst he
  exact ⟨_, rfl, _, _, _, [], _, [], hW', trodAll_mk1 (shut_bool Try.underlying4 _), (trodAll_cons_mk (Below.trod laidOut (by kernel_rfl) (of_decide_eq_true (by kernel_rfl)) k0 bel lt0) (trodAll_cons_mk (shut_int Try.underlying3 w1) trodAll_mk0)), rfl, bel.frame _, fun h => by cases h⟩

theorem over : Rows.slabWritesRow.holds Try.pinned (OpenSpec.ofChange Rows.slabWritesSpec) :=
  OpenClaim.holds_of_wide 3 Try.f3 rfl rfl rfl rfl rfl rfl rfl ⟨rfl, rfl, rfl, rfl, rfl⟩ rfl rfl rfl rfl rfl (by kernel_rfl) Try.func3 (by kernel_rfl)
    (of_decide_eq_true (by kernel_rfl)) (by unfold Func.isWrapper; first | (rw [if_pos (by decide +kernel)]; kernel_rfl) | (rw [if_neg (by decide +kernel)]; exact ⟨rfl, rfl⟩))
    (fun os started H enc _ => lifted os started H enc)

theorem proved : Rows.SlabWritesSaid := over
end Go.Proofs.Ytleimdlpcgpjfaa.slabWrites
namespace Go.Proofs.Ytleimdlpcgpjfaa
theorem slabWrites_holds : Rows.SlabWritesSaid := slabWrites.proved
#print axioms slabWrites_holds
end Go.Proofs.Ytleimdlpcgpjfaa
