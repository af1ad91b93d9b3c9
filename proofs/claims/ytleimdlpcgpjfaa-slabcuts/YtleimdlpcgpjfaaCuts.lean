/-
  Proved: for every list of bytes and every two numbers the law SlabCuts returns true and leaves its arguments as they were; no condition.
-/
import Derived.Test.YtleimdlpcgpjfaaCutsS
import Derived.Below
namespace Go.Proofs.Ytleimdlpcgpjfaa.slabCuts
open Go.ChangeShapes Go.WideShapes Go.ChangeAt Go.RowKit Go.Proofs.Ytleimdlpcgpjfaa.hp Go.Proofs.Ytleimdlpcgpjfaa.dg Go.Proofs.Ytleimdlpcgpjfaa.st
set_option linter.unusedVariables false

set_option maxRecDepth 100000 in
set_option maxHeartbeats 2000000 in
theorem early (w : World) (a : Option Addr) (L c : Nat) (s n : Int) (hh : 4000 < L ∨ 4000 < s) :
    Calls Try.prog 5 #[.slice a L c, .int .i64 s, .int .i64 n] w fun e w' => e = .returned (.bool true) ∧ Below w.heap.size w w' := by
  have hc : ((4000 : Int) < L) ∨ ((L : Int) ≤ 4000 ∧ 4000 < s) := by omega
  clear hh
  rcases hc with h1 | ⟨h1, h2⟩
  all_goals
    go_enter Try.func5, Try.ntmps5
    go_wp2_with fail
    refine (first_any _).mono ?_
    rintro e w1 ⟨rfl, k1⟩
    go_wp2_with fail
    refine (first_any _).mono ?_
    rintro e w3 ⟨rfl, k3⟩
    go_wp2
    go_ret
    exact ⟨rfl, (k1.then k3).below⟩

set_option maxRecDepth 100000 in
set_option maxHeartbeats 16000000 in
theorem late (w : World) (a : Option Addr) (c : Nat) (zs : List Int) (s n : Int) (hv : Lies (Old w) w (.slice a zs.length c) (zs.map (Value.int .u8))) (hc : zs.length ≤ c) (hL : zs.length ≤ 4000) (hs : s ≤ 4000) (hn : n ≤ 9223372036854775807) :
    Calls Try.prog 5 #[.slice a zs.length c, .int .i64 s, .int .i64 n] w fun e w' => e = .returned (.bool true) ∧ Below w.heap.size w w' := by
  have i1 : (zs.length : Int) ≤ 4000 := by omega
  have HV : Hid (Lies (Old w) w (.slice a zs.length c) (zs.map (Value.int .u8))) := hv
  have HC1 := fun w1 => cells_any w1 n s hn
  have HC2 := fun w1 => rcells_any w1 n s hn
  have HC3 := fun w1 => cells_any w1 zs.length s (by omega)
  rw [cellsI_len] at HC3
  have HCu := fun w1 k1 => cut_any w1 a c zs s (hv.chg (F := no) (w' := w1) k1 (fun _ _ h => h)) hc (by omega) (by omega)
  have HCr := fun w1 k1 => rcut_any w1 a c zs s (hv.chg (F := no) (w' := w1) k1 (fun _ _ h => h)) hc (by omega) (by omega)
  obtain ⟨S, hS⟩ : ∃ S, s.toNat = S := ⟨_, rfl⟩
  have HS : Hid (s.toNat = S) := hS
  have hS4 : S ≤ 4000 := by omega
  rw [hS] at HC3 HCu HCr
  clear hS
  have hNle := ncell_le zs.length S
  obtain ⟨N, hN⟩ : ∃ N, ncell zs.length S = N := ⟨_, rfl⟩
  rw [hN] at HC3 HCu HCr hNle
  obtain ⟨CI, hCI⟩ : ∃ CI, cellsI n s = CI := ⟨_, rfl⟩
  rw [hCI] at HC1 HC2
  have HNN : Hid (ncell zs.length S = N) := hN
  obtain ⟨L, hL'⟩ : ∃ L, zs.length = L := ⟨_, rfl⟩
  have HL : Hid (zs.length = L) := hL'
  rw [hL'] at HC3 HCu HCr hNle i1 hc hL ⊢
  clear hv hN hCI hL'
  have i2 : (N : Int) ≤ 4000 := by omega
  obtain ⟨i0, hi0, hz0, hz1, hz2⟩ := info_parts info5
  go_enter Try.func5, Try.ntmps5
  go_wp2_with fail
  refine (first_any _).mono ?_
  rintro e w1 ⟨rfl, k1⟩
  have Cu := HCu w1 k1
  clear HCu
  go_wp2_with fail
  refine Cu.mono ?_
  rintro e w2 ⟨vl, rfl, P1, k2⟩
  have k12 := k1.then k2
  have Cr := HCr w2 k12
  have z2 := k2.size
  obtain ⟨la, ll, lc, hvl⟩ : ∃ la ll lc, vl = .slice la ll lc := by
    obtain ⟨gf, q, _⟩ := P1
    obtain ⟨x, y, hx, _⟩ := q.slice
    exact ⟨_, _, _, hx⟩
  subst hvl
  obtain rfl : ll = N := P1.at.1
  clear HCr Cu
  go_wp2_with fail
  refine Cr.mono ?_
  rintro e w3 ⟨vm, rfl, P2, k3⟩
  have z3 := k3.size
  obtain ⟨ma, ml, mc, hvm⟩ : ∃ ma ml mc, vm = .slice ma ml mc := by
    obtain ⟨gf, q, _⟩ := P2
    obtain ⟨x, y, hx, _⟩ := q.slice
    exact ⟨_, _, _, hx⟩
  subst hvm
  obtain rfl : ml = ll := P2.at.1
  have HP1 : Hid (Pcs w3 (fun k => w1.heap.size ≤ k ∧ k < w2.heap.size) (.slice la ml lc) zs S ml) := P1.chg k3 (fun _ _ h => h)
  have HP2 : Hid (Pcs w3 (fun k => w2.heap.size ≤ k ∧ k < w3.heap.size) (.slice ma ml mc) zs S ml) := P2
  have K3 := k12.then k3
  have C1 := HC1 w3
  have C2 := HC2 w3
  have C3 := HC3 w3
  clear HC1 HC2 HC3 P1 P2 Cr
  go_wp2_with fail
  refine C1.mono ?_
  rintro e w4 ⟨rfl, rfl⟩
  go_wp2_with fail
  refine C2.mono ?_
  rintro e w4' ⟨rfl, rfl⟩
  go_wp2_with fail
  refine C3.mono ?_
  rintro e w5 ⟨rfl, rfl⟩
  clear C1 C2 C3
  have B0 : Hid (AllAt w5 (flat zs S 0) (.slice none 0 0) w5) := AllAt.start w5
  go_wp2_with fail
  go_loopw [9, 10] (fun v i wr => ∃ j : Nat, j ≤ ml ∧ i = .int .i64 (j : Int) ∧ AllAt w5 (flat zs S j) v wr) (fun _ i _ => ml - (intOf i).toNat)
  case atStart => exact ⟨0, by omega, rfl, B0.out⟩
  case round =>
    clear B0
    obtain ⟨j, hj, rfl, hB⟩ := hrel
    have hfl := flat_length zs S j
    have HFA : Hid (flat zs S (j + 1) = flat zs S j ++ piece zs S j) := flat_add zs S j
    have HFB : Hid (1 ≤ S → (flat zs S ml).take zs.length = zs) := fun h => by
      have := flat_back zs S h
      rw [HNN.out] at this
      exact this
    obtain ⟨X, hX⟩ : ∃ X, flat zs S j = X := ⟨_, rfl⟩
    have HX : Hid (flat zs S j = X) := hX
    rw [hX] at hB hfl HFA
    obtain ⟨va, vc, hva⟩ : ∃ va vc, u9 = .slice va X.length vc := owns_shape hB.1.own
    subst hva
    clear hX
    by_cases hjn : j < ml
    · have hji : (j : Int) < ml := by omega
      have hss := ncell_lt zs.length S j (by rw [HNN.out]; exact hjn)
      obtain ⟨x1, g1, rfl, e1, n1, b1⟩ := (HP1.out.chg hB.2 (fun _ _ h => h)).at.2 j hjn
      obtain ⟨x2, g2, rfl, e2, n2, b2⟩ := (HP2.out.chg hB.2 (fun _ _ h => h)).at.2 j hjn
      have hpl := piece_length zs S j
      obtain ⟨Y, hY⟩ : ∃ Y, piece zs S j = Y := ⟨_, rfl⟩
      rw [hY] at b1 b2 hpl HFA
      have q1 := block_lies b1
      have q2 := block_lies b2
      rw [hpl] at q1 q2
      have HBy : Hid (∀ m, Calls Try.prog 16 #[.slice (some ⟨g1, 0, none⟩) S S, .slice (some ⟨g2, 0, none⟩) S S] (wr.drewN m) fun e w' => e = .returned (.bool true) ∧ w' = wr.drewN m) := fun m =>
        bytes_same (q1.chg ((Chg.refl no wr).drewN m) (fun _ _ h => h)) (q2.chg ((Chg.refl no wr).drewN m) (fun _ _ h => h))
      have hls : X.length ≤ 4000 := by
        rw [hfl]
        rw [HL.out] at hss
        omega
      have HQ1 : Hid (∀ m, Lies (fun k => k = g1) (wr.drewN m) (.slice (some ⟨g1, 0, none⟩) S S) (Y.map (Value.int .u8))) := fun m => q1.chg ((Chg.refl no wr).drewN m) (fun _ _ h => h)
      have HO : Hid (∀ m, (wr.drewN m).ownsRow 0 5 1 (.slice va X.length vc) X.length (X.map (Value.int .u8))) := fun m => ((Chg.refl no wr).drewN m).owns hB.1.own (fun _ _ h => h)
      have HEnd : Hid (∀ m v6 w6, Grew 5 (wr.drewN m) w6 (.slice va X.length vc) v6 X.length (X.map (Value.int .u8)) (Y.map (Value.int .u8)) → AllAt w5 (flat zs S (j + 1)) v6 w6) := by
        intro m v6 w6 gr
        rw [HFA.out]
        exact hB.grow ((Chg.refl no wr).drewN m) gr
      have HPL : Hid (Y.length = S) := hpl
      unfold sl at e1 e2
      clear hB q1 q2 b1 b2 HFA HFB HX hfl hY hpl hss n1 n2
      go_wp2_with fail
      go_quiet ((go_at_call 16; go_must (exact Calls.quiet_of_same (HBy.out _))))
      clear HBy
      go_wp2_with (at_builtin; refine wpList_append_grew rfl _ _ 26 rfl 5 i0 (.int .u8 0) 1 Try.underlying26 hi0 hz0 hz1 hz2 rfl (.slice va X.length vc) X.length (X.map (Value.int .u8)) rfl (HO.out _) (fun k => k = g1) (.slice (some ⟨g1, 0, none⟩) S S) (Y.map (Value.int .u8)) rfl (HQ1.out _) (ints_oneCell _ _) ?c1 ?c2 ?_)
      case c1 => simp only [List.length_map, HPL.out]; unfold maxLen; omega
      case c2 => simp only [List.length_map, HPL.out]; omega
      intro v5 w6 gr
      have y5 := HEnd.out _ _ _ gr
      obtain ⟨a5, c5, rfl⟩ := owns_shape gr.own
      clear HEnd gr HO HQ1
      go_wp2
      go_roundw
      case rel => exact ⟨j + 1, by omega, by go_num, y5⟩
      case measure => simp [intOf]; try omega
    · obtain rfl : j = ml := by omega
      have hji : (j : Int) ≤ (j : Int) := by omega
      have HB : Hid (AllAt w5 X (.slice va X.length vc) wr) := hB
      obtain ⟨cp1, cp2⟩ := owns_cap hB.1.own
      have hCw : Hid (Chg no w wr) := K3.then hB.2
      have hge := HNN
      by_cases hs1 : s < 1
      · clear hB
        go_wp2_with fail
        refine (first_any _).mono ?_
        rintro e w7 ⟨rfl, k7⟩
        go_wp2
        go_ret
        exact ⟨rfl, (hCw.out.then k7).below⟩
      · have hS1 : 1 ≤ S := by rw [← HS.out]; omega
        have hge := ncell_ge zs.length S hS1
        rw [HNN.out] at hge
        have hXL : L ≤ X.length := by rw [hfl, ← HL.out]; exact hge
        have hXLi : (L : Int) ≤ X.length := by omega
        have hcc : (L : Int) ≤ vc := by omega
        have hzz : X.take L = zs := by
          have := HFB.out hS1
          rw [HX.out, HL.out] at this
          exact this
        have HBy : Hid (∀ w7, Chg no wr w7 → Calls Try.prog 16 #[.slice va L vc, .slice a L c] w7 fun e w' => e = .returned (.bool true) ∧ w' = w7) := by
          intro w7 k7
          have q := lies_front (Lies.of_owns (J := fun _ => True) ((HB.out.later k7).1.own) (fun _ _ => trivial)) (n := L) (by simpa using hXL)
          rw [← List.map_take, hzz] at q
          have q2 := HV.out.chg (hCw.out.then k7) (fun _ _ h => h)
          rw [HL.out] at q2
          exact bytes_same q q2
        clear hB hge hzz hfl HX HFB HFA
        go_wp2_with fail
        refine (first_any _).mono ?_
        rintro e w7 ⟨rfl, k7⟩
        have By := HBy.out w7 k7
        clear HBy
        go_wp2_with fail
        refine By.mono ?_
        rintro e w8 ⟨rfl, rfl⟩
        go_wp2
        go_ret
        exact ⟨rfl, (hCw.out.then k7).below⟩

theorem walk (w : World) (a0 : Option Addr) (len0 cap0 : Nat) (z0 : List Int) (a1 a2 : Int) (A0 : Lies (Old w) w (.slice a0 len0 cap0) (z0.map (Value.int .u8)) ∧ Bytes z0) (c0 : len0 ≤ cap0) (w1 : (Lit.int .i64 a1).wf = true) (w2 : (Lit.int .i64 a2).wf = true) :
    Calls Try.prog 5 #[.slice a0 len0 cap0, .int .i64 a1, .int .i64 a2] w fun e w' => e = .returned (.bool true) ∧ Below w.heap.size w w' := by
  obtain ⟨x, c, hx, _⟩ := A0.1.slice
  simp only [List.length_map] at hx
  cases hx
  by_cases hh : 4000 < z0.length ∨ 4000 < a1
  · exact early w a0 _ cap0 a1 a2 hh
  · exact late w a0 cap0 z0 a1 a2 A0.1 c0 (by omega) (by omega) (bounds_i64 w2).2

theorem own : ownKnob Try.prog.godebug = none := by kernel_rfl
theorem laidOut : laidOutB Try.prog = true := by kernel_rfl

set_option maxRecDepth 100000 in
theorem lifted (os : Os) (started : os.Started) (H : Type) (enc : TypeId × Value → H) :
    ReturnsInHanded {} Try.checked os 5 .any (Rows.slabCutsSpec.pre6 enc Try.prog Try.f5 Rows.slabCutsRow.domain false) (Rows.slabCutsSpec.post enc Try.prog Try.f5 false true false false) := by
  refine returnsInHanded_of_change (C := Try.checked) own started (by kernel_rfl) Try.func5
    (ChangeSpec.witness6 (enc := enc) (C := Try.checked) false ⟨#[], #[.slice none 0 0, .int .i64 0, .int .i64 0], []⟩ 8 (by kernel_rfl) (by kernel_rfl) (by kernel_rfl) (by kernel_rfl)) ?_
  intro W base args ds gs before hval0 hW hcnd _
  have hval : ∀ (j : Nat) t v, Try.f5.params[j]? = some t → args[j]? = some v → Value.okWide Try.prog W .any base t v := hval0
  have hW' := hW
  obtain ⟨p, q, hA0, hV, rfl, hfz, hnd⟩ := hW
  have hA : DataW.TrodAll enc Try.prog W 0 (fun _ => true) true Try.f5.params.toList args.toList ds p := hA0
  rw [Try.params5] at hA hval
  obtain ⟨v0, vs0, d0, ds0, p0, q0, hargs, rfl, rfl, h0, r0⟩ := trodAll_cons hA
  obtain ⟨v1, vs1, d1, ds1, p1, q1, rfl, rfl, rfl, h1, r1⟩ := trodAll_cons r0
  obtain ⟨v2, vs2, d2, ds2, p2, q2, rfl, rfl, rfl, h2, r2⟩ := trodAll_cons r1
  obtain ⟨rfl, rfl, rfl⟩ := trodAll_nil r2
  obtain rfl : args = #[v0, v1, v2] := by cases args; simp_all
  obtain ⟨rfl, rfl⟩ := trodVars_none hV
  obtain ⟨a0, len0, cap0, rfl⟩ := okWide_slice Try.underlying26 (hval 0 26 v0 rfl rfl)
  have k0 := h0
  have lt0 : ∀ x ∈ p0, x.block < W.heap.size := by obtain ⟨m, hm⟩ := k0; exact DataW.trod_lt m _ _ _ hm
  have c0 : len0 ≤ cap0 := by obtain ⟨m, hm⟩ := k0; exact (open_cap Try.underlying26 hm).1
  obtain ⟨z0, w0⟩ := (by obtain ⟨fuel, hf⟩ := h0; exact open_bytes hf : ∃ z : List Int, Lies (Old W) W (.slice a0 len0 cap0) (z.map (Value.int .u8)) ∧ Bytes z)
  obtain ⟨a1, rfl, rfl, rfl, w1⟩ := open_int Try.underlying3 (hval 1 3 v1 rfl rfl) h1
  obtain ⟨a2, rfl, rfl, rfl, w2⟩ := open_int Try.underlying3 (hval 2 3 v2 rfl rfl) h2
  clear hA0 hval0
  refine (walk W a0 len0 cap0 z0 a1 a2 w0 c0 w1 w2).mono fun e W' ⟨he, bel⟩ => ?_
  subst he
  exact ⟨_, rfl, _, _, _, [], _, [], hW', trodAll_mk1 (shut_bool Try.underlying4 _), (trodAll_cons_mk (Below.trod laidOut (by kernel_rfl) (of_decide_eq_true (by kernel_rfl)) k0 bel lt0) (trodAll_cons_mk (shut_int Try.underlying3 w1) (trodAll_cons_mk (shut_int Try.underlying3 w2) trodAll_mk0))), rfl, bel.frame _, fun h => by cases h⟩

theorem over : Rows.slabCutsRow.holds Try.pinned (OpenSpec.ofChange Rows.slabCutsSpec) :=
  OpenClaim.holds_of_wide 5 Try.f5 rfl rfl rfl rfl rfl rfl rfl ⟨rfl, rfl, rfl, rfl, rfl⟩ rfl rfl rfl rfl rfl (by kernel_rfl) Try.func5 (by kernel_rfl)
    (of_decide_eq_true (by kernel_rfl)) (by unfold Func.isWrapper; first | (rw [if_pos (by decide +kernel)]; kernel_rfl) | (rw [if_neg (by decide +kernel)]; exact ⟨rfl, rfl⟩))
    (fun os started H enc _ => lifted os started H enc)

theorem proved : Rows.SlabCutsSaid := over
end Go.Proofs.Ytleimdlpcgpjfaa.slabCuts
namespace Go.Proofs.Ytleimdlpcgpjfaa
theorem slabCuts_holds : Rows.SlabCutsSaid := slabCuts.proved
#print axioms slabCuts_holds
end Go.Proofs.Ytleimdlpcgpjfaa
