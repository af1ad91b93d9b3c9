/-
  Proved: for every list of bytes and every list of parts the law SlabReads returns true and leaves its arguments as they were; no condition.
-/
import Derived.Test.YtleimdlpcgpjfaaReadsS
import Derived.Below
namespace Go.Proofs.Ytleimdlpcgpjfaa.slabReads
open Go.ChangeShapes Go.WideShapes Go.ChangeAt Go.RowKit Go.Proofs.Ytleimdlpcgpjfaa.hp Go.Proofs.Ytleimdlpcgpjfaa.dg Go.Proofs.Ytleimdlpcgpjfaa.st
set_option linter.unusedVariables false

set_option maxRecDepth 100000 in
set_option maxHeartbeats 2000000 in
theorem early (w : World) (a : Option Addr) (L c : Nat) (a1 : Option Addr) (len1 cap1 : Nat) (hh : 2000 < L ∨ 200 < len1) :
    Calls Try.prog 4 #[.slice a L c, .slice a1 len1 cap1] w fun e w' => e = .returned (.bool true) ∧ Below w.heap.size w w' := by
  have hc : ((2000 : Int) < L) ∨ ((L : Int) ≤ 2000 ∧ (200 : Int) < len1) := by omega
  clear hh
  rcases hc with h1 | ⟨h1, h2⟩
  all_goals
    go_enter Try.func4, Try.ntmps4
    go_wp2_with fail
    refine (first_any _).mono ?_
    rintro e w1 ⟨rfl, k1⟩
    go_wp2_with fail
    refine (first_any _).mono ?_
    rintro e w3 ⟨rfl, k3⟩
    go_wp2
    go_ret
    exact ⟨rfl, (k1.then k3).below⟩

set_option maxRecDepth 100000 in
set_option maxHeartbeats 16000000 in
theorem late (w : World) (a : Option Addr) (c : Nat) (zs : List Int) (a1 : Option Addr) (len1 cap1 : Nat) (O : Nat → PA) (hv : Lies (Old w) w (.slice a zs.length c) (zs.map (Value.int .u8))) (hby : Bytes zs) (hc : zs.length ≤ c) (A1 : PartsAt w a1 len1 O) (hL : zs.length ≤ 2000) (hl : len1 ≤ 200) :
    Calls Try.prog 4 #[.slice a zs.length c, .slice a1 len1 cap1] w fun e w' => e = .returned (.bool true) ∧ Below w.heap.size w w' := by
  have HO : Hid (PartsAt w a1 len1 O) := A1
  have HV : Hid (∀ w', Chg no w w' → Lies (Old w) w' (.slice a zs.length c) (zs.map (Value.int .u8))) := fun w' k => hv.chg k (fun _ _ h => h)
  have HBY : Hid (Bytes zs) := hby
  have HNR := fun w1 k1 => newReader_any w1 _ zs (HV.out w1 k1) hby (by omega)
  obtain ⟨L, hL'⟩ : ∃ L, zs.length = L := ⟨_, rfl⟩
  have HL : Hid (zs.length = L) := hL'
  rw [hL'] at HNR HV hc hL ⊢
  have i1 : (L : Int) ≤ 2000 := by omega
  have i2 : (len1 : Int) ≤ 200 := by omega
  have i3 : (L : Int) ≤ c := by omega
  clear hv hby A1 hL'
  go_enter Try.func4, Try.ntmps4
  go_wp2_with fail
  refine (first_any _).mono ?_
  rintro e w1 ⟨rfl, k1⟩
  have NR := HNR w1 k1
  clear HNR
  go_wp2_with fail
  refine NR.mono ?_
  rintro e w8 ⟨r, rfl, hR, k8⟩
  have K8 := k1.then k8
  have hrz : w.heap.size ≤ r := by
    have q1 := hR.fp.1
    have q2 := k1.size
    omega
  obtain ⟨FR, hFR⟩ : ∃ FR : Nat → Prop, FR = (fun k => w1.heap.size ≤ k ∧ k < w8.heap.size) := ⟨_, rfl⟩
  rw [← hFR] at hR
  have R0 : RAt w8 r FR (zs.drop 0, 0) w8 := RAt.refl hR
  clear hR NR hFR k1 k8
  go_wp2_with fail
  go_loopw [6, 7, 8] (fun at' bad i wr => ∃ (j A : Nat) (B : Int), j ≤ len1 ∧ A ≤ L ∧ at' = .int .i64 (A : Int) ∧ bad = .int .i64 B ∧ i = .int .i64 (j : Int) ∧ RAt w8 r FR (zs.drop A, B) wr) (fun _ _ i _ => len1 - (intOf i).toNat)
  case atStart => exact ⟨0, 0, 0, by omega, by omega, rfl, rfl, rfl, R0⟩
  case round =>
    clear R0
    obtain ⟨j, A, B, hj, hA, rfl, rfl, rfl, hB⟩ := hrel
    have Kr : Chg no w wr := K8.trans hB.2 (fun b hb => .inr (by omega))
    have HK : Hid (∀ w' s', RAt w8 r FR s' w' → Chg no w w') := fun w' s' h => K8.trans h.2 (fun b hb => .inr (by omega))
    have hAi : (A : Int) ≤ L := by omega
    by_cases hjn : j < len1
    · have hji : (j : Int) < len1 := by omega
      obtain ⟨x, ab, cb, rfl, e0, e1, e2, l2, hby, hold⟩ := HO.out.at (Chg.refl no w) j hjn
      obtain ⟨o, ho⟩ : ∃ o, O j = o := ⟨_, rfl⟩
      rw [ho] at e0 e1
      obtain ⟨wd, N, bv, ys⟩ := o
      simp only at e0 e1
      have HE : Hid (∀ w' s', RAt w8 r FR s' w' → w'.cell? (x.add (j * 3)) = some (.int .i64 wd) ∧ w'.cell? ⟨(x.add (j * 3)).block, (x.add (j * 3)).off + 1, none⟩ = some (.int .i64 N)) :=
        fun w' s' h => ⟨(HK.out w' s' h).cell e0 id, (HK.out w' s' h).cell e1 id⟩
      clear hby ho e0 e1 e2 l2 hold
      obtain ⟨e0, e1⟩ := HE.out wr _ hB
      have hdl : (zs.drop A).length = L - A := by rw [List.length_drop, HL.out]
      have hl8 : (zs.drop A).length ≤ 100000000 := by omega
      by_cases hw : wd = 0
      · subst hw
        by_cases hb : B = 0
        · subst hb
          by_cases hn0 : N < 0
          · have hdn : decide (0 ≤ N) = false := decide_eq_false (by omega)
            have HR := fun m => rr_fail (zs := zs.drop A) (er := 1) (hB.same ((Chg.refl no wr).drewN m)) hl8 N (by rw [hdn]; exact tak_range) (by decide)
            clear hB hl8
            go_wp2_with fail
            go_quiet (fail)
            go_wp2_with fail
            refine (HR nq).mono ?_
            rintro e w5 ⟨ra, rc, J, rfl, hR5, hL5⟩
            have ER := err_any hR5.1
            have BY := bytes_same (zs := []) (K := no) hL5 (.inl ⟨rfl, rfl⟩)
            obtain ⟨f0, f1⟩ := HE.out w5 _ hR5
            clear HR hL5 e0 e1
            go_wp2_with fail
            refine ER.mono ?_
            rintro e w6 ⟨rfl, rfl⟩
            clear ER
            go_wp2_with fail
            refine BY.mono ?_
            rintro e w7 ⟨rfl, rfl⟩
            clear BY
            go_wp2
            go_roundw
            case rel => exact ⟨j + 1, A, 1, by omega, hA, rfl, rfl, by go_num, hR5⟩
            case measure => simp [intOf]; omega
          by_cases hs : (L : Int) - (A : Int) < N
          · have hdn : decide (0 ≤ N) = true := decide_eq_true (by omega)
            have HR := fun m => rr_fail (zs := zs.drop A) (er := 3) (hB.same ((Chg.refl no wr).drewN m)) hl8 N (by rw [hdn]; exact tak_short (by rw [hdl]; omega)) (by decide)
            clear hB hl8
            go_wp2_with fail
            go_quiet (fail)
            go_wp2_with fail
            refine (HR nq).mono ?_
            rintro e w5 ⟨ra, rc, J, rfl, hR5, hL5⟩
            have ER := err_any hR5.1
            have BY := bytes_same (zs := []) (K := no) hL5 (.inl ⟨rfl, rfl⟩)
            obtain ⟨f0, f1⟩ := HE.out w5 _ hR5
            clear HR hL5 e0 e1
            go_wp2_with fail
            refine ER.mono ?_
            rintro e w6 ⟨rfl, rfl⟩
            clear ER
            go_wp2_with fail
            refine BY.mono ?_
            rintro e w7 ⟨rfl, rfl⟩
            clear BY
            go_wp2
            go_roundw
            case rel => exact ⟨j + 1, A, 3, by omega, hA, rfl, rfl, by go_num, hR5⟩
            case measure => simp [intOf]; omega
          obtain ⟨k, rfl⟩ := Int.eq_ofNat_of_zero_le (show 0 ≤ N by omega)
          have hk : A + k ≤ L := by omega
          have hki : (A : Int) + (k : Int) ≤ L := by omega
          have hkc : (A : Int) + (k : Int) ≤ c := by omega
          by_cases hAc : A = c
          · subst hAc
            obtain rfl : k = 0 := by omega
            have HR := fun m => rr_ok A 0 (hB.same ((Chg.refl no wr).drewN m)) (by rw [HL.out]; omega) (by rw [HL.out]; exact hk)
            have HWT : Hid (∀ w', Chg no w w' → Lies (Old w) w' (.slice a 0 0) (((zs.drop A).take 0).map (Value.int .u8))) := fun w' kk => by
                have q := lies_none (n := A) (HV.out w' kk) (by rw [List.length_map, HL.out]; omega) (by omega)
                rw [show L - A = 0 by omega, List.drop_of_length_le (by rw [List.length_map, HL.out]; omega)] at q
                simpa using q
            clear hB hl8
            go_wp2_with fail
            go_quiet (fail)
            go_wp2_with fail
            refine (HR nq).mono ?_
            rintro e w5 ⟨ra, rc, J, rfl, hR5, hL5⟩
            have ER := err_any hR5.1
            have BY := bytes_same hL5 (HWT.out w5 (HK.out _ _ hR5))
            obtain ⟨f0, f1⟩ := HE.out w5 _ hR5
            clear HR e0 e1 hL5 HWT
            go_wp2_with fail
            refine ER.mono ?_
            rintro e w6 ⟨rfl, rfl⟩
            clear ER
            go_wp2_with fail
            refine BY.mono ?_
            rintro e w7 ⟨rfl, rfl⟩
            clear BY
            go_wp2
            go_roundw
            case rel => exact ⟨j + 1, A + 0, 0, by omega, hk, by go_num, rfl, by go_num, hR5⟩
            case measure => simp [intOf]; omega
          have hAci : (A : Int) < c := by omega
          have HR := fun m => rr_ok A k (hB.same ((Chg.refl no wr).drewN m)) (by rw [HL.out]; omega) (by rw [HL.out]; exact hk)
          have HWT : Hid (∀ w', Chg no w w' → Lies (Old w) w' (.slice (a.map (fun x => x.add A)) k (c - A)) (((zs.drop A).take k).map (Value.int .u8))) := fun w' kk => by
              have q := lies_sub (lo := A) (hi := A + k) (HV.out w' kk) (by omega) (by rw [List.length_map, HL.out]; exact hk)
              rw [Nat.add_sub_cancel_left, ← List.map_drop, ← List.map_take] at q
              exact q
          clear hB hl8
          go_wp2_with fail
          go_quiet (fail)
          go_wp2_with fail
          refine (HR nq).mono ?_
          rintro e w5 ⟨ra, rc, J, rfl, hR5, hL5⟩
          have ER := err_any hR5.1
          have BY := bytes_same hL5 (HWT.out w5 (HK.out _ _ hR5))
          obtain ⟨f0, f1⟩ := HE.out w5 _ hR5
          clear HR e0 e1 hL5 HWT
          go_wp2_with fail
          refine ER.mono ?_
          rintro e w6 ⟨rfl, rfl⟩
          clear ER
          go_wp2_with fail
          refine BY.mono ?_
          rintro e w7 ⟨rfl, rfl⟩
          clear BY
          go_wp2
          go_roundw
          case rel => exact ⟨j + 1, A + k, 0, by omega, hk, by go_num, rfl, by go_num, hR5⟩
          case measure => simp [intOf]; omega
        · have hbb : (B == 0) = false := by simpa using hb
          have hbn : (B != 0) = true := by simpa using hb
          have HR := fun m => rr_fail (zs := zs.drop A) (er := B) (hB.same ((Chg.refl no wr).drewN m)) hl8 N (tak_failed hb) (hb)
          clear hB hl8
          go_wp2_with fail
          go_quiet (fail)
          go_wp2_with fail
          refine (HR nq).mono ?_
          rintro e w5 ⟨ra, rc, J, rfl, hR5, hL5⟩
          have ER := err_any hR5.1
          have BY := bytes_same (zs := []) (K := no) hL5 (.inl ⟨rfl, rfl⟩)
          obtain ⟨f0, f1⟩ := HE.out w5 _ hR5
          clear HR hL5 e0 e1
          go_wp2_with fail
          refine ER.mono ?_
          rintro e w6 ⟨rfl, rfl⟩
          clear ER
          go_wp2_with fail
          refine BY.mono ?_
          rintro e w7 ⟨rfl, rfl⟩
          clear BY
          go_wp2
          go_roundw
          case rel => exact ⟨j + 1, A, B, by omega, hA, rfl, rfl, by go_num, hR5⟩
          case measure => simp [intOf]; omega
      · have hwb : (wd == 0) = false := by simpa using hw
        have hwn : (wd != 0) = true := by simpa using hw
        by_cases hb : B = 0
        · subst hb
          by_cases hn0 : wd < 1
          · have hdn : isw wd = false := decide_eq_false (by omega)
            have HR := fun m => rn_any (hB.same ((Chg.refl no wr).drewN m)) wd (T := (zs.drop A, 1)) (by rw [hdn]; exact tak_range) (tval_failed (zs := zs.drop A) (er := 1) (by rw [hdn]; exact tak_range) (by decide))
            clear hB hl8
            go_wp2_with fail
            go_quiet (fail)
            go_wp2_with fail
            refine (HR nq).mono ?_
            rintro e w5 ⟨rfl, hR5⟩
            have ER := err_any hR5.1
            obtain ⟨f0, f1⟩ := HE.out w5 _ hR5
            clear HR e0 e1
            go_wp2_with fail
            refine ER.mono ?_
            rintro e w6 ⟨rfl, rfl⟩
            clear ER
            go_wp2
            go_roundw
            case rel => exact ⟨j + 1, A, 1, by omega, hA, rfl, rfl, by go_num, hR5⟩
            case measure => simp [intOf]; omega
          by_cases hn7 : 7 < wd
          · have hdn : isw wd = false := decide_eq_false (by omega)
            have hn1 : 1 ≤ wd := by omega
            have HR := fun m => rn_any (hB.same ((Chg.refl no wr).drewN m)) wd (T := (zs.drop A, 1)) (by rw [hdn]; exact tak_range) (tval_failed (zs := zs.drop A) (er := 1) (by rw [hdn]; exact tak_range) (by decide))
            clear hB hl8
            go_wp2_with fail
            go_quiet (fail)
            go_wp2_with fail
            refine (HR nq).mono ?_
            rintro e w5 ⟨rfl, hR5⟩
            have ER := err_any hR5.1
            obtain ⟨f0, f1⟩ := HE.out w5 _ hR5
            clear HR e0 e1
            go_wp2_with fail
            refine ER.mono ?_
            rintro e w6 ⟨rfl, rfl⟩
            clear ER
            go_wp2
            go_roundw
            case rel => exact ⟨j + 1, A, 1, by omega, hA, rfl, rfl, by go_num, hR5⟩
            case measure => simp [intOf]; omega
          have hn1 : 1 ≤ wd := by omega
          have hn8 : wd ≤ 7 := by omega
          by_cases hs : (L : Int) - (A : Int) < wd
          · have hdn : isw wd = true := decide_eq_true (by omega)
            have HR := fun m => rn_any (hB.same ((Chg.refl no wr).drewN m)) wd (T := (zs.drop A, 3)) (by rw [hdn]; exact tak_short (by rw [hdl]; omega)) (tval_failed (zs := zs.drop A) (er := 3) (by rw [hdn]; exact tak_short (by rw [hdl]; omega)) (by decide))
            clear hB hl8
            go_wp2_with fail
            go_quiet (fail)
            go_wp2_with fail
            refine (HR nq).mono ?_
            rintro e w5 ⟨rfl, hR5⟩
            have ER := err_any hR5.1
            obtain ⟨f0, f1⟩ := HE.out w5 _ hR5
            clear HR e0 e1
            go_wp2_with fail
            refine ER.mono ?_
            rintro e w6 ⟨rfl, rfl⟩
            clear ER
            go_wp2
            go_roundw
            case rel => exact ⟨j + 1, A, 3, by omega, hA, rfl, rfl, by go_num, hR5⟩
            case measure => simp [intOf]; omega
          obtain ⟨k, rfl⟩ := Int.eq_ofNat_of_zero_le (show 0 ≤ wd by omega)
          have h1 : 1 ≤ k := by omega
          have h2 : k ≤ 7 := by omega
          have hk : A + k ≤ L := by omega
          have hki : (A : Int) + (k : Int) ≤ L := by omega
          have hkc : (A : Int) + (k : Int) ≤ c := by omega
          have hAci : (A : Int) < c := by omega
          have HR := fun m => rn_ok A k (hB.same ((Chg.refl no wr).drewN m)) h1 h2 (by rw [HL.out]; exact hk)
          have HWT : Hid (∀ w', Chg no w w' → Lies (Old w) w' (.slice (a.map (fun x => x.add A)) k (c - A)) (((zs.drop A).take k).map (Value.int .u8))) := fun w' kk => by
              have q := lies_sub (lo := A) (hi := A + k) (HV.out w' kk) (by omega) (by rw [List.length_map, HL.out]; exact hk)
              rw [Nat.add_sub_cancel_left, ← List.map_drop, ← List.map_take] at q
              exact q
          have hbt : Bytes ((zs.drop A).take k) := (HBY.out.drop A).take k
          have hlt : ((zs.drop A).take k).length = k := by rw [List.length_take, hdl]; omega
          obtain ⟨Y, hY⟩ : ∃ Y, (zs.drop A).take k = Y := ⟨_, rfl⟩
          rw [hY] at HR HWT hbt hlt
          have HBT : Hid (Bytes Y ∧ Y.length = k) := ⟨hbt, hlt⟩
          obtain ⟨V, hV⟩ : ∃ V, told Y = V := ⟨_, rfl⟩
          have HTV : Hid (told Y = V) := hV
          rw [hV] at HR
          clear hB hl8 hbt hlt hY hV
          go_wp2_with fail
          go_quiet (fail)
          go_wp2_with fail
          refine (HR nq).mono ?_
          rintro e w5 ⟨rfl, hR5⟩
          have ER := err_any hR5.1
          have RN := rnum_any w5 _ Y (HWT.out w5 (HK.out _ _ hR5)) HBT.out.1 (by rw [HBT.out.2]; exact h1) (by rw [HBT.out.2]; exact h2)
          rw [HTV.out] at RN
          obtain ⟨f0, f1⟩ := HE.out w5 _ hR5
          clear HR e0 e1 HWT
          go_wp2_with fail
          refine ER.mono ?_
          rintro e w6 ⟨rfl, rfl⟩
          clear ER
          go_wp2_with fail
          refine RN.mono ?_
          rintro e w7 ⟨rfl, rfl⟩
          clear RN
          go_wp2
          go_roundw
          case rel => exact ⟨j + 1, A + k, 0, by omega, hk, by go_num, rfl, by go_num, hR5⟩
          case measure => simp [intOf]; omega
        · have hbb : (B == 0) = false := by simpa using hb
          have hbn : (B != 0) = true := by simpa using hb
          have HR := fun m => rn_any (hB.same ((Chg.refl no wr).drewN m)) wd (T := (zs.drop A, B)) (tak_failed hb) (tval_failed (zs := zs.drop A) (er := B) (tak_failed hb) (hb))
          clear hB hl8
          go_wp2_with fail
          go_quiet (fail)
          go_wp2_with fail
          refine (HR nq).mono ?_
          rintro e w5 ⟨rfl, hR5⟩
          have ER := err_any hR5.1
          obtain ⟨f0, f1⟩ := HE.out w5 _ hR5
          clear HR e0 e1
          go_wp2_with fail
          refine ER.mono ?_
          rintro e w6 ⟨rfl, rfl⟩
          clear ER
          go_wp2
          go_roundw
          case rel => exact ⟨j + 1, A, B, by omega, hA, rfl, rfl, by go_num, hR5⟩
          case measure => simp [intOf]; omega
    · obtain rfl : j = len1 := by omega
      have hji : (j : Int) ≤ (j : Int) := by omega
      have hdl : (zs.drop A).length = L - A := by rw [List.length_drop, HL.out]
      have HEN : Hid (∀ w', Chg no wr w' → Calls Try.prog 23 #[.pointer (some ⟨r, 0, none⟩)] w' fun e w'' => e = .returned (.int .i64 (endS (zs.drop A, B))) ∧ w'' = w') := fun w' k => end_any (s := (zs.drop A, B)) (hB.same k).1 (by rw [hdl]; omega)
      by_cases hb : B = 0
      · subst hb
        have HAL : Hid (endOf (zs.drop A) (L - A) = endS (zs.drop A, 0)) := by rw [← hdl]; exact endOf_all _
        have HCE : Hid (∀ t, A + t < L → ∃ y, a = some y ∧ wr.cell? (y.add (A + t)) = some (.int .u8 ((zs.drop A).getD t 0)) ∧ (((zs.drop A).getD t 0 = 0 → endOf (zs.drop A) (t + 1) = endOf (zs.drop A) t) ∧ ((zs.drop A).getD t 0 ≠ 0 → endOf (zs.drop A) (t + 1) = 2))) := by
          intro t ht
          obtain ⟨a', c', he, hcell⟩ := (HV.out wr Kr).slice
          cases he
          have hlt : A + t < zs.length := by rw [HL.out]; exact ht
          have e : (zs.drop A).getD t 0 = zs[A + t] := by simp [List.getD_eq_getElem?_getD, List.getElem?_drop, List.getElem?_eq_getElem hlt]
          obtain ⟨y, hy, _, hy3⟩ := hcell (A + t) (.int .u8 ((zs.drop A).getD t 0)) (by rw [List.getElem?_map, e, List.getElem?_eq_getElem hlt]; rfl)
          exact ⟨y, hy, hy3, endOf_step (zs.drop A) t (by rw [hdl]; omega)⟩
        obtain ⟨D, hD⟩ : ∃ D, zs.drop A = D := ⟨_, rfl⟩
        rw [hD] at HEN HAL HCE
        clear hB hD hdl
        go_wp2_with fail
        go_loop [13, 14] (fun en i => ∃ t : Nat, A + t ≤ L ∧ en = .int .i64 (endOf D t) ∧ i = .int .i64 ((A : Int) + (t : Int))) (fun _ i => L - (intOf i).toNat)
        case atStart => exact ⟨0, by omega, rfl, by go_num⟩
        case round =>
          obtain ⟨t, ht, rfl, rfl⟩ := hrel
          by_cases htl : A + t < L
          · have hti : (A : Int) + (t : Int) < L := by omega
            obtain ⟨y, rfl, hc1, hs1, hs2⟩ := HCE.out t htl
            obtain ⟨Z, hZ⟩ : ∃ Z, D.getD t 0 = Z := ⟨_, rfl⟩
            obtain ⟨E, hE⟩ : ∃ E, endOf D t = E := ⟨_, rfl⟩
            rw [hZ] at hc1 hs1 hs2
            rw [hE] at hs1 ⊢
            have HS1 : Hid (Z = 0 → endOf D (t + 1) = E) := hs1
            have HS2 : Hid (Z ≠ 0 → endOf D (t + 1) = 2) := hs2
            clear hZ hE hs1 hs2
            by_cases hz : Z = 0
            · subst hz
              have q := HS1.out rfl
              clear HS1 HS2
              go_wp2
              go_round
              case rel => exact ⟨t + 1, by omega, by rw [q], by go_num⟩
              case measure => simp [intOf]; omega
            · have hzb : (Z != 0) = true := by simpa using hz
              have q := HS2.out hz
              clear HS1 HS2
              go_wp2
              go_round
              case rel => exact ⟨t + 1, by omega, by rw [q], by go_num⟩
              case measure => simp [intOf]; omega
          · have hti : (L : Int) ≤ (A : Int) + (t : Int) := by omega
            obtain rfl : t = L - A := by omega
            rw [HAL.out]
            obtain ⟨E, hE⟩ : ∃ E, endS (D, 0) = E := ⟨_, rfl⟩
            rw [hE] at HEN ⊢
            clear hE HAL HCE
            go_wp2_with fail
            refine (first_any _).mono ?_
            rintro e w9 ⟨rfl, k9⟩
            have EN := HEN.out w9 k9
            clear HEN
            go_wp2_with fail
            refine EN.mono ?_
            rintro e wa ⟨rfl, rfl⟩
            clear EN
            go_wp2
            go_ret
            exact ⟨rfl, (Kr.then k9).below⟩
      · have hbb : (B == 0) = false := by simpa using hb
        have hbn : (B != 0) = true := by simpa using hb
        have e : endS (zs.drop A, B) = B := by simp [endS, hb]
        rw [e] at HEN
        clear hB e hdl
        go_wp2_with fail
        go_loop [13, 14] (fun en i => en = .int .i64 B ∧ i = .int .i64 (A : Int)) (fun _ i => 0)
        case atStart => exact ⟨rfl, rfl⟩
        case round =>
          obtain ⟨rfl, rfl⟩ := hrel
          by_cases hAL : (A : Int) < L
          all_goals
            go_wp2_with fail
            refine (first_any _).mono ?_
            rintro e w9 ⟨rfl, k9⟩
            have EN := HEN.out w9 k9
            clear HEN
            go_wp2_with fail
            refine EN.mono ?_
            rintro e wa ⟨rfl, rfl⟩
            clear EN
            go_wp2
            go_ret
            exact ⟨rfl, (Kr.then k9).below⟩

theorem walk (w : World) (a0 : Option Addr) (len0 cap0 : Nat) (z0 : List Int) (a1 : Option Addr) (len1 cap1 : Nat) (O : Nat → PA) (A0 : Lies (Old w) w (.slice a0 len0 cap0) (z0.map (Value.int .u8)) ∧ Bytes z0) (c0 : len0 ≤ cap0) (A1 : PartsAt w a1 len1 O) (c1 : len1 ≤ cap1) :
    Calls Try.prog 4 #[.slice a0 len0 cap0, .slice a1 len1 cap1] w fun e w' => e = .returned (.bool true) ∧ Below w.heap.size w w' := by
  obtain ⟨x, c, hx, _⟩ := A0.1.slice
  simp only [List.length_map] at hx
  cases hx
  by_cases hh : 2000 < z0.length ∨ 200 < len1
  · exact early w a0 _ cap0 a1 len1 cap1 hh
  · exact late w a0 cap0 z0 a1 len1 cap1 O A0.1 A0.2 c0 A1 (by omega) (by omega)

theorem own : ownKnob Try.prog.godebug = none := by kernel_rfl
theorem laidOut : laidOutB Try.prog = true := by kernel_rfl

set_option maxRecDepth 100000 in
theorem lifted (os : Os) (started : os.Started) (H : Type) (enc : TypeId × Value → H) :
    ReturnsInHanded {} Try.checked os 4 .any (Rows.slabReadsSpec.pre6 enc Try.prog Try.f4 Rows.slabReadsRow.domain false) (Rows.slabReadsSpec.post enc Try.prog Try.f4 false true false false) := by
  refine returnsInHanded_of_change (C := Try.checked) own started (by kernel_rfl) Try.func4
    (ChangeSpec.witness6 (enc := enc) (C := Try.checked) false ⟨#[], #[.slice none 0 0, .slice none 0 0], []⟩ 8 (by kernel_rfl) (by kernel_rfl) (by kernel_rfl) (by kernel_rfl)) ?_
  intro W base args ds gs before hval0 hW hcnd _
  have hval : ∀ (j : Nat) t v, Try.f4.params[j]? = some t → args[j]? = some v → Value.okWide Try.prog W .any base t v := hval0
  have hW' := hW
  obtain ⟨p, q, hA0, hV, rfl, hfz, hnd⟩ := hW
  have hA : DataW.TrodAll enc Try.prog W 0 (fun _ => true) true Try.f4.params.toList args.toList ds p := hA0
  rw [Try.params4] at hA hval
  obtain ⟨v0, vs0, d0, ds0, p0, q0, hargs, rfl, rfl, h0, r0⟩ := trodAll_cons hA
  obtain ⟨v1, vs1, d1, ds1, p1, q1, rfl, rfl, rfl, h1, r1⟩ := trodAll_cons r0
  obtain ⟨rfl, rfl, rfl⟩ := trodAll_nil r1
  obtain rfl : args = #[v0, v1] := by cases args; simp_all
  obtain ⟨rfl, rfl⟩ := trodVars_none hV
  obtain ⟨a0, len0, cap0, rfl⟩ := okWide_slice Try.underlying26 (hval 0 26 v0 rfl rfl)
  have k0 := h0
  have lt0 : ∀ x ∈ p0, x.block < W.heap.size := by obtain ⟨m, hm⟩ := k0; exact DataW.trod_lt m _ _ _ hm
  have c0 : len0 ≤ cap0 := by obtain ⟨m, hm⟩ := k0; exact (open_cap Try.underlying26 hm).1
  obtain ⟨z0, w0⟩ := (by obtain ⟨fuel, hf⟩ := h0; exact open_bytes hf : ∃ z : List Int, Lies (Old W) W (.slice a0 len0 cap0) (z.map (Value.int .u8)) ∧ Bytes z)
  obtain ⟨a1, len1, cap1, rfl⟩ := okWide_slice Try.underlying22 (hval 1 22 v1 rfl rfl)
  have k1 := h1
  have lt1 : ∀ x ∈ p1, x.block < W.heap.size := by obtain ⟨m, hm⟩ := k1; exact DataW.trod_lt m _ _ _ hm
  have c1 : len1 ≤ cap1 := by obtain ⟨m, hm⟩ := k1; exact (open_cap Try.underlying22 hm).1
  obtain ⟨O1, w1⟩ := (by obtain ⟨fuel, hf⟩ := h1; exact open_parts hf : ∃ z : Nat → PA, PartsAt W a1 len1 z)
  clear hA0 hval0
  refine (walk W a0 len0 cap0 z0 a1 len1 cap1 O1 w0 c0 w1 c1).mono fun e W' ⟨he, bel⟩ => ?_
  subst he
  exact ⟨_, rfl, _, _, _, [], _, [], hW', trodAll_mk1 (shut_bool Try.underlying4 _), (trodAll_cons_mk (Below.trod laidOut (by kernel_rfl) (of_decide_eq_true (by kernel_rfl)) k0 bel lt0) (trodAll_cons_mk (Below.trod laidOut (by kernel_rfl) (of_decide_eq_true (by kernel_rfl)) k1 bel lt1) trodAll_mk0)), rfl, bel.frame _, fun h => by cases h⟩

theorem over : Rows.slabReadsRow.holds Try.pinned (OpenSpec.ofChange Rows.slabReadsSpec) :=
  OpenClaim.holds_of_wide 4 Try.f4 rfl rfl rfl rfl rfl rfl rfl ⟨rfl, rfl, rfl, rfl, rfl⟩ rfl rfl rfl rfl rfl (by kernel_rfl) Try.func4 (by kernel_rfl)
    (of_decide_eq_true (by kernel_rfl)) (by unfold Func.isWrapper; first | (rw [if_pos (by decide +kernel)]; kernel_rfl) | (rw [if_neg (by decide +kernel)]; exact ⟨rfl, rfl⟩))
    (fun os started H enc _ => lifted os started H enc)

theorem proved : Rows.SlabReadsSaid := over
end Go.Proofs.Ytleimdlpcgpjfaa.slabReads
namespace Go.Proofs.Ytleimdlpcgpjfaa
theorem slabReads_holds : Rows.SlabReadsSaid := slabReads.proved
#print axioms slabReads_holds
end Go.Proofs.Ytleimdlpcgpjfaa
