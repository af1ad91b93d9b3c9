/-
  Proved: for every list of parts and every number the law SlabBack returns true and leaves its arguments as they were; no condition.
-/
import Derived.Test.YtleimdlpcgpjfaaParts
import Derived.Below
namespace Go.Proofs.Ytleimdlpcgpjfaa.slabBack
open Go.ChangeShapes Go.WideShapes Go.ChangeAt Go.RowKit Go.Proofs.Ytleimdlpcgpjfaa.hp Go.Proofs.Ytleimdlpcgpjfaa.dg Go.Proofs.Ytleimdlpcgpjfaa.st
set_option linter.unusedVariables false

theorem fill_more (bs : List Int) (m : Nat) : fill bs (bs.length + m) = bs ++ List.replicate m (0 : Int) := by
  unfold fill
  rw [Nat.add_sub_cancel_left]

theorem zeros_more (m : Nat) : zeros (List.replicate m (0 : Int)) = true := by
  unfold zeros
  rw [List.all_eq_true]
  intro x hx
  have := List.eq_of_mem_replicate hx
  simp [this]

theorem rat_then {w8 wr w' : World} {r : Nat} {F : Nat → Prop} {s t : RS} (h : RAt w8 r F s wr) (h2 : RAt wr r F t w') : RAt w8 r F t w' := ⟨h2.1, h.2.then h2.2⟩

theorem rat_same {w8 wr w' : World} {r : Nat} {F : Nat → Prop} {s : RS} (h : RAt w8 r F s wr) (k : Chg no wr w') : RAt w8 r F s w' := ⟨h.1.same k, h.2.then (k.of_no _)⟩

/-- A part of bytes is read back. -/
theorem back_raw {w8 wr : World} {r : Nat} {F : Nat → Prop} {zs rest : List Int} (h : RAt w8 r F (zs ++ rest, 0) wr) (hl : (zs ++ rest).length ≤ 100000000) :
    Calls Try.prog 19 #[.pointer (some ⟨r, 0, none⟩), .int .i64 zs.length] wr fun e w' => ∃ a c J, e = .returned (.slice a zs.length c) ∧ RAt w8 r F (rest, 0) w' ∧ Lies J w' (.slice a zs.length c) (zs.map (Value.int .u8)) ∧ Chg (fun k => k = r) wr w' := by
  have hb := raw_back zs rest
  have HR := rraw_any h.1 hl zs.length
  rw [hb.1] at HR
  have e : got (zs ++ rest, 0) (rest, 0) zs.length = zs := by
    have := hb.2
    rw [hb.1] at this
    exact this
  rw [e] at HR
  refine HR.mono ?_
  rintro e w' ⟨v, w1, rfl, o1, hR, k1⟩
  obtain ⟨a, c, rfl⟩ := owns_shape o1
  exact ⟨a, c, fun _ => True, rfl, rat_same (rat_then h hR) k1, Lies.of_owns o1 (fun _ _ => trivial), hR.2.then (k1.of_no _)⟩

/-- A number is read back. -/
theorem back_num {w8 wr : World} {r : Nat} {F : Nat → Prop} {n a : Int} {rest : List Int} (h : RAt w8 r F (enc n a.toNat ++ rest, 0) wr) (ho : okN a n = true) :
    Calls Try.prog 20 #[.pointer (some ⟨r, 0, none⟩), .int .i64 a] wr fun e w' => e = .returned (.int .i64 n) ∧ RAt w8 r F (rest, 0) w' ∧ Chg (fun k => k = r) wr w' := by
  have hh : 1 ≤ a ∧ a ≤ 7 ∧ -1 ≤ n ∧ n + 2 ≤ 2 ^ (8 * a.toNat) := by
    unfold okN at ho
    exact of_decide_eq_true ho
  obtain ⟨k, rfl⟩ := Int.eq_ofNat_of_zero_le (show 0 ≤ a by omega)
  simp only [Int.toNat_natCast] at hh h
  have hb := num_back n k rest (by omega) (by omega) (by omega) (by unfold most; omega)
  have HR := rnum_r h.1 k
  rw [hb.1, hb.2] at HR
  refine HR.mono ?_
  rintro e w' ⟨rfl, hR⟩
  exact ⟨rfl, rat_then h hR, hR.2⟩

set_option maxRecDepth 100000 in
set_option maxHeartbeats 16000000 in
theorem walk (w : World) (a0 : Option Addr) (len0 cap0 : Nat) (O : Nat → PA) (more : Int) (A0 : PartsAt w a0 len0 O) (c0 : len0 ≤ cap0) (w1 : (Lit.int .i64 more).wf = true) :
    Calls Try.prog 6 #[.slice a0 len0 cap0, .int .i64 more] w fun e w' => e = .returned (.bool true) ∧ Below w.heap.size w w' := by
  have FW : ∀ w', Chg no w w' → Calls Try.prog 10 #[.slice a0 len0 cap0] w' (FewRes len0 O w') := fun w' c => few_any (parts_later A0 c) cap0
  have HO : Hid (PartsAt w a0 len0 O) := A0
  clear A0 c0 w1
  go_enter Try.func6, Try.ntmps6
  go_wp2_with fail
  refine (first_any _).mono ?_
  rintro e w1 ⟨rfl, k1⟩
  go_wp2_with fail
  refine (FW _ k1).mono ?_
  rintro e w2 ⟨b2, rfl, hb2, rfl⟩
  clear FW
  by_cases hbad : b2 = false ∨ more < 0 ∨ 100 < more
  · have hc : b2 = false ∨ (b2 = true ∧ more < 0) ∨ (b2 = true ∧ 0 ≤ more ∧ 100 < more) := by
      cases b2 <;> simp at hbad ⊢ <;> omega
    clear hbad hb2
    rcases hc with rfl | ⟨rfl, h1⟩ | ⟨rfl, h1, h2⟩
    all_goals
      go_wp2_with fail
      refine (first_any _).mono ?_
      rintro e w3 ⟨rfl, k3⟩
      go_wp2
      go_ret
      exact ⟨rfl, (k1.then k3).below⟩
  obtain rfl : b2 = true := by cases b2 <;> simp at hbad ⊢
  obtain ⟨m, rfl⟩ := Int.eq_ofNat_of_zero_le (show 0 ≤ more by simp at hbad; omega)
  have hm : (m : Int) ≤ 100 := by simp at hbad; omega
  have HF : Hid (FewIs len0 O) := hb2 rfl
  clear hb2 hbad
  have hl200 : len0 ≤ 200 := HF.out.1
  go_upto_block 0 with fail
  have B0 := LW.new w2
  have kA : Chg no w (w2.alloc (.cells #[.slice none 0 0, .bool false] 28)) := k1.alloc _
  have hpz := k1.size
  obtain ⟨w4, hw4⟩ : ∃ w4, w2.alloc (.cells #[.slice none 0 0, .bool false] 28) = w4 := ⟨_, rfl⟩
  rw [hw4] at B0 kA
  have hp4 : w2.heap.size < w4.heap.size := by rw [← hw4]; simp
  obtain ⟨p, hp⟩ : ∃ p, w2.heap.size = p := ⟨_, rfl⟩
  rw [hp] at B0 hpz hp4
  simp only [hw4, hp]
  clear hw4 hp k1
  go_cut [] from 6 to 60 (fun wc => LW w4 p (wsAt O len0) wc)
  case first =>
    go_wp2_with fail
    go_loopw [6] (fun i wr => ∃ j : Nat, j ≤ len0 ∧ i = .int .i64 (j : Int) ∧ LW w4 p (wsAt O j) wr) (fun i _ => len0 - (intOf i).toNat)
    case atStart => exact ⟨0, by omega, rfl, B0⟩
    case round =>
      clear B0
      obtain ⟨j, hj, rfl, hB⟩ := hrel
      by_cases hjn : j < len0
      · have hji : (j : Int) < len0 := by omega
        obtain ⟨x, ab, cb, rfl, e0, e1, e2, l2, hby, hold⟩ := HO.out.at (LW.chg hB kA hpz) j hjn
        have hz : (O j).zs.length ≤ 20000 := HF.out.2 j hjn
        have hlen : (wsAt O j).1.length ≤ 10000000 := by
          have := wsAt_len HF.out.2 j hj
          omega
        have hltb : (x.add (j * 3)).block < wr.heap.size := Nat.lt_of_lt_of_le hold (LW.chg hB kA hpz).size
        have HST : Hid (wsAt O (j + 1) = if (O j).wd = 0 then raws (wsAt O j) [(O j).zs] else nums (O j).wd (wsAt O j) [(O j).n]) := rfl
        have HR := LW.raw hB kA hpz l2 hlen (by omega)
        have HN := fun w1 g k1 hg hgn => LW.num (w1 := w1) (g := g) hB k1 (O j).wd (O j).n hg hgn hlen
        obtain ⟨o, ho⟩ : ∃ o, O j = o := ⟨_, rfl⟩
        rw [ho] at e0 e1 e2 HST HR HN
        obtain ⟨wd, N, bv, zs⟩ := o
        simp only at e0 e1 e2 HST HR HN
        clear hB l2 hby ho hz
        by_cases hw : wd = 0
        · subst hw
          rw [if_pos rfl] at HST
          rw [← HST.out] at HR
          clear HN
          go_wp2_with fail
          refine HR.mono ?_
          rintro e w5 ⟨rfl, hP⟩
          clear HR
          go_wp2
          go_roundw
          case rel => exact ⟨j + 1, by omega, by go_num, hP⟩
          case measure => simp [intOf]; omega
        · have hwb : (wd == 0) = false := by simpa using hw
          rw [if_neg hw] at HST
          rw [← HST.out] at HN
          have HNN : Hid (∀ (w1 : World) (g : Nat), Chg no wr w1 → w1.heap[g]? = some (.cells #[.int .i64 N] 3 (0, 0)) → wr.heap.size ≤ g → Calls Try.prog 12 #[.pointer (some ⟨p, 0, none⟩), .int .i64 wd, .slice (some ⟨g, 0, none⟩) 1 1] w1 fun e w' => e = .returned (.pointer (some ⟨p, 0, none⟩)) ∧ LW w4 p (wsAt O (j + 1)) w') := HN
          clear HR HN
          go_wp2_with fail
          go_region_with (go_at_call 12; refine (HNN.out _ _ ((Chg.refl no _).alloc _).drew (heap_alloc_new wr _) (Nat.le_refl _)).mono ?_; rintro e w5 ⟨rfl, hP⟩)
          all_goals go_wp2
          all_goals go_roundw
          all_goals first | exact ⟨j + 1, by omega, by go_num, hP⟩ | (simp [intOf]; omega)
      · obtain rfl : j = len0 := by omega
        have hji : (j : Int) ≤ (j : Int) := by omega
        have HB : Hid (LW w4 p (wsAt O j) wr) := hB
        clear hB
        go_wp2
        go_meet
        case rel => exact HB.out
  case rest =>
    clear B0
    have hfine := wsAt_fine O len0
    have hbl := wsAt_len HF.out.2 len0 (Nat.le_refl _)
    have HK : Hid (Chg no w wc) := LW.chg hcut kA hpz
    have HZ : Hid (∀ i, i < len0 → Bytes (O i).zs) := fun i hi => by
      obtain ⟨x, _, _, _, _, _, _, _, hb, _⟩ := HO.out.at HK.out i hi
      exact hb
    obtain ⟨⟨bs, br⟩, hS⟩ : ∃ S, wsAt O len0 = S := ⟨_, rfl⟩
    rw [hS] at hcut hfine hbl
    have hW : Wri wc p (Wid (fun k => k = p) w4 wc) bs br := hcut.1
    simp only at hfine hbl
    clear hS hcut
    have hbl2 : (bs.length : Int) ≤ 5000000 := by omega
    have LN := len_any hW
    go_wp2_with fail
    refine LN.mono ?_
    rintro e w5 ⟨rfl, rfl⟩
    clear LN
    by_cases hbad : br = true ∨ (1048576 : Int) < (bs.length : Int) + (m : Int)
    · have SR := sealed_range hW ((bs.length : Int) + (m : Int)) (by rcases hbad with h | h; exact .inl h; exact .inr (.inr h))
      clear hbad hfine hW
      go_wp2_with fail
      refine SR.mono ?_
      rintro e w6 ⟨rfl, rfl⟩
      clear SR
      go_wp2_with fail
      refine (first_any _).mono ?_
      rintro e w7 ⟨rfl, k7⟩
      go_wp2
      go_ret
      exact ⟨rfl, (HK.out.then k7).below⟩
    · obtain rfl : br = false := by cases br <;> simp at hbad ⊢
      have hle : bs.length + m ≤ 1048576 := by simp at hbad; omega
      obtain ⟨hpre, hok⟩ := hfine rfl
      have SO := sealed_ok hW (bs.length + m) hle (by omega)
      have hcast : ((bs.length + m : Nat) : Int) = (bs.length : Int) + (m : Int) := by omega
      rw [hcast, fill_more] at SO
      have HOK : Hid (∀ i, i < len0 → (O i).wd ≠ 0 → okN (O i).wd (O i).n = true) := hok
      have HPR : Hid (bs = pre O len0) := hpre
      clear hbad hfine hW hpre hok
      have hml : (bs ++ List.replicate m (0 : Int)).length = bs.length + m := by simp
      have HBY : Hid (Bytes (bs ++ List.replicate m (0 : Int))) := by
        have q : Bytes (pre O len0) := Bytes.pre HZ.out len0 (Nat.le_refl _)
        rw [← HPR.out] at q
        exact Bytes.append q (bytes_zeros m)
      have HRS : Hid (bs ++ List.replicate m (0 : Int) = restAt O len0 0 (List.replicate m (0 : Int))) := by
        have := restAt_zero O len0 (List.replicate m (0 : Int))
        rw [← HPR.out] at this
        exact this.symm
      have HRL : Hid (∀ j, (restAt O len0 j (List.replicate m (0 : Int))).length ≤ 100000000) := fun j => by
        unfold restAt
        rw [← HPR.out, List.length_drop]
        omega
      go_wp2_with fail
      refine SO.mono ?_
      rintro e w6 ⟨rfl, g6, k6⟩
      have hL6 := block_lies g6
      rw [hml] at hL6
      have HNR := newReader_any w6 _ _ hL6 HBY.out (by omega)
      clear SO hL6 hml hcast
      go_wp2_with fail
      refine HNR.mono ?_
      rintro e w8 ⟨r, rfl, hR, k8⟩
      have K8 := (HK.out.then k6).then k8
      have hrz : w.heap.size ≤ r := by
        have q1 := hR.fp.1
        have q2 := (HK.out.then k6).size
        omega
      obtain ⟨FR, hFR⟩ : ∃ FR : Nat → Prop, FR = (fun k => w6.heap.size ≤ k ∧ k < w8.heap.size) := ⟨_, rfl⟩
      rw [← hFR] at hR
      have R0 : RAt w8 r FR (restAt O len0 0 (List.replicate m (0 : Int)), 0) w8 := by
        rw [← HRS.out]
        exact RAt.refl hR
      obtain ⟨z, hz⟩ : ∃ z, List.replicate m (0 : Int) = z := ⟨_, rfl⟩
      have HZE : Hid (zeros z = true) := by rw [← hz]; exact zeros_more m
      rw [hz] at R0 HRL
      clear hR HNR hFR g6 HRS HBY HPR hz HZ
      go_wp2_with fail
      go_loopw [11] (fun i wr => ∃ j : Nat, j ≤ len0 ∧ i = .int .i64 (j : Int) ∧ RAt w8 r FR (restAt O len0 j z, 0) wr) (fun i _ => len0 - (intOf i).toNat)
      case atStart => exact ⟨0, by omega, rfl, R0⟩
      case round =>
        clear R0
        obtain ⟨j, hj, rfl, hB⟩ := hrel
        have Kr : Chg no w wr := K8.trans hB.2 (fun b hb => .inr (by omega))
        by_cases hjn : j < len0
        · have hji : (j : Int) < len0 := by omega
          obtain ⟨x, ab, cb, rfl, e0, e1, e2, l2, hby, hold⟩ := HO.out.at Kr j hjn
          have hstep := restAt_step O len0 j z hjn
          have hok := HOK.out j hjn
          have hrl := HRL.out j
          have hpb : pb (O j) = if (O j).wd = 0 then (O j).zs else enc (O j).n (O j).wd.toNat := rfl
          have hz2 : (O j).zs.length ≤ 20000 := HF.out.2 j hjn
          rw [hstep] at hB hrl
          obtain ⟨o, ho⟩ : ∃ o, O j = o := ⟨_, rfl⟩
          rw [ho] at e0 e1 e2 l2 hok hpb hB hrl hz2
          obtain ⟨wd, N, bv, zs⟩ := o
          simp only at e0 e1 e2 l2 hok hpb hz2
          rw [hpb] at hB hrl
          clear hstep hpb ho hby
          have hblk : ¬ (x.add (j * 3)).block = r := by
            unfold Old at hold
            omega
          by_cases hw : wd = 0
          · subst hw
            rw [if_pos rfl] at hB hrl
            have HR := back_raw (rat_same hB (Chg.refl no wr).drew) hrl
            obtain ⟨pG, hpG⟩ : ∃ pG : World → Prop, ∀ w', pG w' ↔ w'.cell? ⟨(x.add (j * 3)).block, (x.add (j * 3)).off + 2, none⟩ = some (.slice ab zs.length cb) := ⟨_, fun _ => Iff.rfl⟩
            have hx1 : ∀ x' : far.InC pG, x'.w.cell? ⟨(x.add (j * 3)).block, (x.add (j * 3)).off + 2, none⟩ = some (.slice ab zs.length cb) := fun x => (hpG _).1 x.h
            have iG : Nonempty (far.InC pG) := ⟨⟨wr, (hpG _).2 e2⟩⟩
            have HYG : Hid (pG wr.drew) := (hpG _).2 e2
            have HLA : Hid (∀ w', Chg (fun k => k = r) wr.drew w' → pG w' ∧ Lies (Old w) w' (.slice ab zs.length cb) (zs.map (Value.int .u8))) := by
              intro w' h
              refine ⟨(hpG _).2 (h.cell e2 hblk), (l2.chg (Chg.refl no wr).drew (fun _ _ h => h)).chg h (fun b hb e => ?_)⟩
              unfold Old at hb
              omega
            clear hpG hB l2 hrl hok hblk
            go_wp2_with fail
            refine far.region_farM (fun κ w' => pG w') [7, 13] (by kernel_rfl) (by kernel_rfl) HYG.out ?_
            intro L e1' e2' e3'
            refine far.farO_stretch pG 7 0 0 e1' e2' e3' (by kernel_rfl) (by kernel_rfl) (fun κ w' hk1 hk2 hC => hC) ?_
            simp only [List.take_succ_cons, List.take_zero, List.drop_succ_cons, List.drop_zero, Nat.reduceAdd]
            repeat (go_big_quiet_step (fail))
            refine wpQuiet_nil ?_
            refine far.farO_enter e1' e2' 0 rfl rfl 19 #[.pointer (some ⟨r, 0, none⟩), .int .i64 zs.length] (by kernel_rfl) (by kernel_rfl) ?_
            refine HR.mono ?_
            rintro e w9 ⟨ra, rc, J, rfl, hR9, hL9, c9⟩
            obtain ⟨p9, l9⟩ := HLA.out _ c9
            refine ⟨_, rfl, p9, ?_⟩
            have BY := bytes_same hL9 l9
            simp only [Act.put, List.setIfInBounds_toArray, List.set_cons_succ, List.set_cons_zero, Nat.reduceAdd]
            refine far.farO_stretch pG 5 0 1 e1' e2' e3' (by kernel_rfl) (by kernel_rfl) (fun κ w' hk1 hk2 hC => hC) ?_
            simp only [List.take_succ_cons, List.take_zero, List.drop_succ_cons, List.drop_zero, Nat.reduceAdd]
            repeat (go_big_quiet_step (fail))
            refine wpQuiet_nil ?_
            refine far.farO_enter e1' e2' 1 rfl rfl 16 #[.slice ra zs.length rc, .slice ab zs.length cb] (by kernel_rfl) (by kernel_rfl) ?_
            refine BY.mono ?_
            rintro e wa ⟨rfl, rfl⟩
            refine ⟨_, rfl, p9, ?_⟩
            simp only [Act.put, List.setIfInBounds_toArray, List.set_cons_succ, List.set_cons_zero, Nat.reduceAdd]
            refine far.farO_stretch pG 1 0 2 e1' e2' e3' (by kernel_rfl) (by kernel_rfl) (fun κ w' hk1 hk2 hC => hC) ?_
            simp only [List.take_succ_cons, List.take_zero, List.drop_succ_cons, List.drop_zero, Nat.reduceAdd]
            repeat (go_big_quiet_step (fail))
            refine wpQuiet_nil ?_
            refine far.farO_nil ?_
            clear hx1 HR HLA BY hL9 l9 c9 p9 HYG
            go_wp2
            go_roundw
            case rel => exact ⟨j + 1, by omega, by go_num, hR9⟩
            case measure => simp [intOf]; omega
          · have hwb : (wd == 0) = false := by simpa using hw
            rw [if_neg hw] at hB hrl
            have HR := back_num (rat_same hB (Chg.refl no wr).drew) (hok hw)
            obtain ⟨pG, hpG⟩ : ∃ pG : World → Prop, ∀ w', pG w' ↔ (w'.cell? (x.add (j * 3)) = some (.int .i64 wd) ∧ w'.cell? ⟨(x.add (j * 3)).block, (x.add (j * 3)).off + 1, none⟩ = some (.int .i64 N)) := ⟨_, fun _ => Iff.rfl⟩
            have hx0 : ∀ x' : far.InC pG, x'.w.cell? (x.add (j * 3)) = some (.int .i64 wd) := fun x => ((hpG _).1 x.h).1
            have hx1 : ∀ x' : far.InC pG, x'.w.cell? ⟨(x.add (j * 3)).block, (x.add (j * 3)).off + 1, none⟩ = some (.int .i64 N) := fun x => ((hpG _).1 x.h).2
            have iG : Nonempty (far.InC pG) := ⟨⟨wr, (hpG _).2 ⟨e0, e1⟩⟩⟩
            have HYG : Hid (pG wr.drew) := (hpG _).2 ⟨e0, e1⟩
            have HLA : Hid (∀ w', Chg (fun k => k = r) wr.drew w' → pG w') := fun w' h => (hpG _).2 ⟨h.cell e0 hblk, h.cell e1 hblk⟩
            clear hpG hB l2 hrl hok hblk
            go_wp2_with fail
            refine far.region_farM (fun κ w' => pG w') [6] (by kernel_rfl) (by kernel_rfl) HYG.out ?_
            intro L e1' e2' e3'
            refine far.farO_stretch pG 6 0 0 e1' e2' e3' (by kernel_rfl) (by kernel_rfl) (fun κ w' hk1 hk2 hC => hC) ?_
            simp only [List.take_succ_cons, List.take_zero, List.drop_succ_cons, List.drop_zero, Nat.reduceAdd]
            repeat (go_big_quiet_step (fail))
            refine wpQuiet_nil ?_
            refine far.farO_enter e1' e2' 0 rfl rfl 20 #[.pointer (some ⟨r, 0, none⟩), .int .i64 wd] (by kernel_rfl) (by kernel_rfl) ?_
            refine HR.mono ?_
            rintro e w9 ⟨rfl, hR9, c9⟩
            have p9 := HLA.out _ c9
            refine ⟨_, rfl, p9, ?_⟩
            simp only [Act.put, List.setIfInBounds_toArray, List.set_cons_succ, List.set_cons_zero, Nat.reduceAdd]
            refine far.farO_stretch pG 6 0 1 e1' e2' e3' (by kernel_rfl) (by kernel_rfl) (fun κ w' hk1 hk2 hC => hC) ?_
            simp only [List.take_succ_cons, List.take_zero, List.drop_succ_cons, List.drop_zero, Nat.reduceAdd]
            repeat (go_big_quiet_step (fail))
            refine wpQuiet_nil ?_
            refine far.farO_nil ?_
            clear hx0 hx1 HR HLA c9 p9 HYG
            go_wp2
            go_roundw
            case rel => exact ⟨j + 1, by omega, by go_num, hR9⟩
            case measure => simp [intOf]; omega
        · obtain rfl : j = len0 := by omega
          have hji : (j : Int) ≤ (j : Int) := by omega
          rw [restAt_all] at hB
          have HB : Hid (RAt w8 r FR (z, 0) wr) := hB
          have hzl := HRL.out j
          rw [restAt_all] at hzl
          have HER : Hid (∀ w', Chg no wr w' → (Calls Try.prog 21 #[.pointer (some ⟨r, 0, none⟩)] w' fun e w'' => e = .returned (.int .i64 0) ∧ w'' = w') ∧ Calls Try.prog 23 #[.pointer (some ⟨r, 0, none⟩)] w' fun e w'' => e = .returned (.int .i64 0) ∧ w'' = w') := by
            intro w' k
            have q := (rat_same HB.out k).1
            refine ⟨err_any q, ?_⟩
            have q2 := end_any (s := (z, 0)) q hzl
            have e : endS (z, 0) = 0 := by unfold endS; simp [HZE.out]
            rw [e] at q2
            exact q2
          clear hB hzl
          go_wp2_with fail
          refine (first_any _).mono ?_
          rintro e w9 ⟨rfl, k9⟩
          obtain ⟨ER, EN⟩ := HER.out _ k9
          clear HER
          go_wp2_with fail
          refine ER.mono ?_
          rintro e wa ⟨rfl, rfl⟩
          go_wp2_with fail
          refine EN.mono ?_
          rintro e wb ⟨rfl, rfl⟩
          clear ER EN
          go_wp2
          go_ret
          exact ⟨rfl, (Kr.then k9).below⟩

theorem own : ownKnob Try.prog.godebug = none := by kernel_rfl
theorem laidOut : laidOutB Try.prog = true := by kernel_rfl

set_option maxRecDepth 100000 in
theorem lifted (os : Os) (started : os.Started) (H : Type) (enc : TypeId × Value → H) :
    ReturnsInHanded {} Try.checked os 6 .any (Rows.slabBackSpec.pre6 enc Try.prog Try.f6 Rows.slabBackRow.domain false) (Rows.slabBackSpec.post enc Try.prog Try.f6 false true false false) := by
  refine returnsInHanded_of_change (C := Try.checked) own started (by kernel_rfl) Try.func6
    (ChangeSpec.witness6 (enc := enc) (C := Try.checked) false ⟨#[], #[.slice none 0 0, .int .i64 0], []⟩ 8 (by kernel_rfl) (by kernel_rfl) (by kernel_rfl) (by kernel_rfl)) ?_
  intro W base args ds gs before hval0 hW hcnd _
  have hval : ∀ (j : Nat) t v, Try.f6.params[j]? = some t → args[j]? = some v → Value.okWide Try.prog W .any base t v := hval0
  have hW' := hW
  obtain ⟨p, q, hA0, hV, rfl, hfz, hnd⟩ := hW
  have hA : DataW.TrodAll enc Try.prog W 0 (fun _ => true) true Try.f6.params.toList args.toList ds p := hA0
  rw [Try.params6] at hA hval
  obtain ⟨v0, vs0, d0, ds0, p0, q0, hargs, rfl, rfl, h0, r0⟩ := trodAll_cons hA
  obtain ⟨v1, vs1, d1, ds1, p1, q1, rfl, rfl, rfl, h1, r1⟩ := trodAll_cons r0
  obtain ⟨rfl, rfl, rfl⟩ := trodAll_nil r1
  obtain rfl : args = #[v0, v1] := by cases args; simp_all
  obtain ⟨rfl, rfl⟩ := trodVars_none hV
  obtain ⟨a0, len0, cap0, rfl⟩ := okWide_slice Try.underlying22 (hval 0 22 v0 rfl rfl)
  have k0 := h0
  have lt0 : ∀ x ∈ p0, x.block < W.heap.size := by obtain ⟨m, hm⟩ := k0; exact DataW.trod_lt m _ _ _ hm
  have c0 : len0 ≤ cap0 := by obtain ⟨m, hm⟩ := k0; exact (open_cap Try.underlying22 hm).1
  obtain ⟨O0, w0⟩ := (by obtain ⟨fuel, hf⟩ := h0; exact open_parts hf : ∃ z : Nat → PA, PartsAt W a0 len0 z)
  obtain ⟨a1, rfl, rfl, rfl, w1⟩ := open_int Try.underlying3 (hval 1 3 v1 rfl rfl) h1
  clear hA0 hval0
  refine (walk W a0 len0 cap0 O0 a1 w0 c0 w1).mono fun e W' ⟨he, bel⟩ => ?_
  subst he
  exact ⟨_, rfl, _, _, _, [], _, [], hW', trodAll_mk1 (shut_bool Try.underlying4 _), (trodAll_cons_mk (Below.trod laidOut (by kernel_rfl) (of_decide_eq_true (by kernel_rfl)) k0 bel lt0) (trodAll_cons_mk (shut_int Try.underlying3 w1) trodAll_mk0)), rfl, bel.frame _, fun h => by cases h⟩

theorem over : Rows.slabBackRow.holds Try.pinned (OpenSpec.ofChange Rows.slabBackSpec) :=
  OpenClaim.holds_of_wide 6 Try.f6 rfl rfl rfl rfl rfl rfl rfl ⟨rfl, rfl, rfl, rfl, rfl⟩ rfl rfl rfl rfl rfl (by kernel_rfl) Try.func6 (by kernel_rfl)
    (of_decide_eq_true (by kernel_rfl)) (by unfold Func.isWrapper; first | (rw [if_pos (by decide +kernel)]; kernel_rfl) | (rw [if_neg (by decide +kernel)]; exact ⟨rfl, rfl⟩))
    (fun os started H enc _ => lifted os started H enc)

theorem proved : Rows.SlabBackSaid := over
end Go.Proofs.Ytleimdlpcgpjfaa.slabBack
namespace Go.Proofs.Ytleimdlpcgpjfaa
theorem slabBack_holds : Rows.SlabBackSaid := slabBack.proved
#print axioms slabBack_holds
end Go.Proofs.Ytleimdlpcgpjfaa
