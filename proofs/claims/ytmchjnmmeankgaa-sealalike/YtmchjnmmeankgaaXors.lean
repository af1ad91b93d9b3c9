/-
  Proved: for every three texts the law SealXors returns true; no condition.
-/
import Derived.Test.YtmchjnmmeankgaaFst
import Derived.Test.YtmchjnmmeankgaaArgs
namespace Go.Proofs.Ytmchjnmmeankgaa.sealXors
open Go.ChangeShapes Go.WideShapes Go.ChangeAt Go.RowKit Go.Proofs.Ytmchjnmmeankgaa.hp Go.Proofs.Ytmchjnmmeankgaa.dg Go.Proofs.Ytmchjnmmeankgaa.st
set_option linter.unusedVariables false

set_option maxRecDepth 100000 in
set_option maxHeartbeats 2000000 in
theorem early (w : World) (a0 : Option Addr) (l0 c0 : Nat) (a1 : Option Addr) (l1 c1 : Nat) (a2 : Option Addr) (l2 c2 : Nat) (hh : 2000 < l0 ∨ 2000 < l1 ∨ 2000 < l2) :
    Calls Try.prog 4 #[.slice a0 l0 c0, .slice a1 l1 c1, .slice a2 l2 c2] w fun e w' => e = .returned (.bool true) ∧ Below w.heap.size w w' := by
  have hc : (2000 < (l0 : Int)) ∨ ((l0 : Int) ≤ 2000 ∧ 2000 < (l1 : Int)) ∨ ((l0 : Int) ≤ 2000 ∧ (l1 : Int) ≤ 2000 ∧ 2000 < (l2 : Int)) := by omega
  clear hh
  rcases hc with h1 | ⟨h1, h2⟩ | ⟨h1, h2, h3⟩
  all_goals
    go_enter Try.func4, Try.ntmps4
    go_wp2_with fail
    refine (first_any _).mono ?_
    rintro e w1 ⟨rfl, k1⟩
    go_wp2_with fail
    refine (first_any _).mono ?_
    rintro e w3 ⟨rfl, k3⟩
    go_wp2
    go_ret
    exact ⟨rfl, (k1.then k3).below⟩

theorem xor_two (w : World) (va v u : Value) (zs ys xs : List Int) (h : Lies (fun _ => True) w va (zs.map (Value.int .u8))) (h2 : Lies (fun _ => True) w v (ys.map (Value.int .u8))) (h3 : Lies (fun _ => True) w u (xs.map (Value.int .u8))) (hl : zs.length ≤ 100000000) (hl2 : ys.length ≤ 100000000) (hl3 : xs.length ≤ 100000000) :
    Calls Try.prog 26 #[va, .slice (some ⟨w.heap.size, 0, none⟩) 2 2] (w.alloc (.cells #[v, u] 22)) fun e w' => ∃ v', e = .returned v' ∧ New w (xor2 (xor2 zs ys) xs) v' w' := by
  refine (xor_any _ _ va zs (h.chg ((Chg.refl no w).alloc _) (fun _ _ h => h)) _ [v, u] [ys, xs] (many_two h2 h3 22) (by simp) hl ?_).mono ?_
  · intro i hi
    simp at hi
    have : i = 0 ∨ i = 1 := by omega
    rcases this with rfl | rfl
    · exact hl2
    · exact hl3
  · rintro e w' ⟨v', rfl, N⟩
    exact ⟨v', rfl, New.behind N ((Chg.refl no w).alloc _)⟩

theorem xor_none (w : World) (va : Value) (zs : List Int) (h : Lies (fun _ => True) w va (zs.map (Value.int .u8))) (hl : zs.length ≤ 100000000) :
    Calls Try.prog 26 #[va, .slice none 0 0] w fun e w' => ∃ v', e = .returned v' ∧ New w zs v' w' :=
  xor_any w _ va zs h (.slice none 0 0) [] [] ⟨.inl ⟨rfl, rfl⟩, rfl, fun i hi => by simp at hi⟩ (by simp) hl (fun i hi => by simp at hi)

set_option maxRecDepth 100000 in
set_option maxHeartbeats 4000000 in
theorem late (w : World) (a0 : Option Addr) (c0 : Nat) (z0 : List Int) (a1 : Option Addr) (c1 : Nat) (z1 : List Int) (a2 : Option Addr) (c2 : Nat) (z2 : List Int)
    (h0 : Lies (fun _ => True) w (.slice a0 z0.length c0) (z0.map (Value.int .u8))) (b0 : Bytes z0) (h1 : Lies (fun _ => True) w (.slice a1 z1.length c1) (z1.map (Value.int .u8))) (b1 : Bytes z1) (h2 : Lies (fun _ => True) w (.slice a2 z2.length c2) (z2.map (Value.int .u8))) (b2 : Bytes z2)
    (e0 : z0.length ≤ 2000) (e1 : z1.length ≤ 2000) (e2 : z2.length ≤ 2000) :
    Calls Try.prog 4 #[.slice a0 z0.length c0, .slice a1 z1.length c1, .slice a2 z2.length c2] w fun e w' => e = .returned (.bool true) ∧ Below w.heap.size w w' := by
  have i0 : (z0.length : Int) ≤ 2000 := by omega
  have i1 : (z1.length : Int) ≤ 2000 := by omega
  have i2 : (z2.length : Int) ≤ 2000 := by omega
  obtain ⟨X, hX⟩ : ∃ X, xor2 (xor2 z0 z1) z2 = X := ⟨_, rfl⟩
  have HXB : Hid (xor2 (xor2 X z2) z1 = z0) := by
    rw [← hX, xor2_back (xor2_bytes b0 b1) b2]
    exact xor2_back b0 b1
  have hXl : X.length = z0.length := by rw [← hX, xor2_length, xor2_length]
  have HX : Hid (xor2 (xor2 z0 z1) z2 = X) := hX
  have HXL : Hid (X.length = z0.length) := hXl
  have H0 : Hid (∀ w', Chg no w w' → Lies (fun _ => True) w' (.slice a0 z0.length c0) (z0.map (Value.int .u8))) := fun w' k => h0.chg k (fun _ _ h => h)
  have H1 : Hid (∀ w', Chg no w w' → Lies (fun _ => True) w' (.slice a1 z1.length c1) (z1.map (Value.int .u8))) := fun w' k => h1.chg k (fun _ _ h => h)
  have H2 : Hid (∀ w', Chg no w w' → Lies (fun _ => True) w' (.slice a2 z2.length c2) (z2.map (Value.int .u8))) := fun w' k => h2.chg k (fun _ _ h => h)
  clear h0 h1 h2 hX b0 b1 b2 hXl
  go_enter Try.func4, Try.ntmps4
  go_wp2_with fail
  refine (first_any _).mono ?_
  rintro e w1 ⟨rfl, k1⟩
  have C1 := xor_two w1 _ _ _ z0 z1 z2 (H0.out _ k1) (H1.out _ k1) (H2.out _ k1) (by omega) (by omega) (by omega)
  rw [HX.out] at C1
  go_wp2_with fail
  refine C1.mono ?_
  rintro e w2 ⟨v2, rfl, N2⟩
  obtain ⟨x2, d2, rfl⟩ := N2.shape
  have K2 := k1.then N2.2
  have HL2 : Hid (Lies (fun _ => True) w2 (.slice x2 X.length d2) (X.map (Value.int .u8))) := N2.lies.mono (fun _ _ => trivial)
  clear C1 N2
  go_wp2_with fail
  refine (first_any _).mono ?_
  rintro e w3 ⟨rfl, k3⟩
  have K3 := K2.then k3
  have L3 := Lies.chg HL2.out k3 (fun _ _ h => h)
  have C3 := rxor_any w3 _ _ z0 (H0.out _ K3) _ z1 (H1.out _ K3) (by omega) (by omega)
  clear HL2 k3 K2
  go_wp2_with fail
  refine C3.mono ?_
  rintro e w4 ⟨v4, rfl, N4⟩
  obtain ⟨x4, d4, rfl⟩ := N4.shape
  have K4 := K3.then N4.2
  have L4 := L3.chg N4.2 (fun _ _ h => h)
  have C4 := rxor_any w4 _ _ (xor2 z0 z1) (N4.lies.mono (fun _ _ => trivial)) _ z2 (H2.out _ K4) (by rw [xor2_length]; omega) (by omega)
  rw [HX.out] at C4
  obtain ⟨Y, hY⟩ : ∃ Y, (xor2 z0 z1).length = Y := ⟨_, rfl⟩
  rw [hY] at C4 ⊢
  clear C3 N4 K3 L3 hY
  go_wp2_with fail
  refine C4.mono ?_
  rintro e w5 ⟨v5, rfl, N5⟩
  obtain ⟨x5, d5, rfl⟩ := N5.shape
  have K5 := K4.then N5.2
  have L5 := L4.chg N5.2 (fun _ _ h => h)
  have HB := bytes_same L5 N5.lies
  clear C4 N5 K4 L4
  go_wp2_with fail
  refine HB.mono ?_
  rintro e w6 ⟨rfl, rfl⟩
  have C5 := xor_two w6 _ _ _ X z2 z1 L5 (H2.out _ K5) (H1.out _ K5) (by have := HXL.out; omega) (by omega) (by omega)
  rw [HXB.out] at C5
  clear HB
  go_wp2_with fail
  refine C5.mono ?_
  rintro e w7 ⟨v7, rfl, N7⟩
  obtain ⟨x7, d7, rfl⟩ := N7.shape
  have K7 := K5.then N7.2
  have HB := bytes_same N7.lies (H0.out _ K7)
  clear C5 L5 K5 N7
  go_wp2_with fail
  refine HB.mono ?_
  rintro e w8 ⟨rfl, rfl⟩
  have C8 := xor_none w8 _ z0 (H0.out _ K7) (by omega)
  clear HB
  go_wp2_with fail
  refine C8.mono ?_
  rintro e w9 ⟨v9, rfl, N9⟩
  obtain ⟨x9, d9, rfl⟩ := N9.shape
  have K9 := K7.then N9.2
  have HB := bytes_same N9.lies (H0.out _ K9)
  clear C8 N9 K7
  go_wp2_with fail
  refine HB.mono ?_
  rintro e wA ⟨rfl, rfl⟩
  go_wp2
  go_ret
  exact ⟨rfl, K9.below⟩

theorem walk (w : World) (a0 : Option Addr) (l0 c0 : Nat) (z0 : List Int) (a1 : Option Addr) (l1 c1 : Nat) (z1 : List Int) (a2 : Option Addr) (l2 c2 : Nat) (z2 : List Int)
    (w0 : Lies (Old w) w (.slice a0 l0 c0) (z0.map (Value.int .u8)) ∧ Bytes z0) (k0 : l0 ≤ c0) (w1 : Lies (Old w) w (.slice a1 l1 c1) (z1.map (Value.int .u8)) ∧ Bytes z1) (k1 : l1 ≤ c1) (w2 : Lies (Old w) w (.slice a2 l2 c2) (z2.map (Value.int .u8)) ∧ Bytes z2) (k2 : l2 ≤ c2) :
    Calls Try.prog 4 #[.slice a0 l0 c0, .slice a1 l1 c1, .slice a2 l2 c2] w fun e w' => e = .returned (.bool true) ∧ Below w.heap.size w w' := by
  by_cases hh : 2000 < l0 ∨ 2000 < l1 ∨ 2000 < l2
  · exact early w a0 l0 c0 a1 l1 c1 a2 l2 c2 hh
  · obtain ⟨x0, y0, h0, _⟩ := w0.1.slice
    obtain ⟨x1, y1, h1, _⟩ := w1.1.slice
    obtain ⟨x2, y2, h2, _⟩ := w2.1.slice
    rw [List.length_map] at h0 h1 h2
    cases h0
    cases h1
    cases h2
    exact late w a0 c0 z0 a1 c1 z1 a2 c2 z2 (w0.1.mono (fun _ _ => trivial)) w0.2 (w1.1.mono (fun _ _ => trivial)) w1.2 (w2.1.mono (fun _ _ => trivial)) w2.2 (by omega) (by omega) (by omega)

theorem own : ownKnob Try.prog.godebug = none := by kernel_rfl
theorem laidOut : laidOutB Try.prog = true := by kernel_rfl

set_option maxRecDepth 100000 in
theorem lifted (os : Os) (started : os.Started) (H : Type) (enc : TypeId × Value → H) :
    ReturnsInHanded {} Try.checked os 4 .any (Rows.sealXorsSpec.pre6 enc Try.prog Try.f4 Rows.sealXorsRow.domain false) (Rows.sealXorsSpec.post enc Try.prog Try.f4 false true false false) := by
  refine returnsInHanded_of_change (C := Try.checked) own started (by kernel_rfl) Try.func4
    (ChangeSpec.witness6 (enc := enc) (C := Try.checked) false ⟨#[], #[.slice none 0 0, .slice none 0 0, .slice none 0 0], []⟩ 8 (by kernel_rfl) (by kernel_rfl) (by kernel_rfl) (by kernel_rfl)) ?_
  intro W base args ds gs before hval0 hW hcnd _
  have hval : ∀ (j : Nat) t v, Try.f4.params[j]? = some t → args[j]? = some v → Value.okWide Try.prog W .any base t v := hval0
  have hW' := hW
  obtain ⟨p, q, hA0, hV, rfl, hfz, hnd⟩ := hW
  have hA : DataW.TrodAll enc Try.prog W 0 (fun _ => true) true Try.f4.params.toList args.toList ds p := hA0
  rw [Try.params4] at hA hval
  obtain ⟨v0, vs0, d0, ds0, p0, q0, hargs, rfl, rfl, h0, r0⟩ := trodAll_cons hA
  obtain ⟨v1, vs1, d1, ds1, p1, q1, rfl, rfl, rfl, h1, r1⟩ := trodAll_cons r0
  obtain ⟨v2, vs2, d2, ds2, p2, q2, rfl, rfl, rfl, h2, r2⟩ := trodAll_cons r1
  obtain ⟨rfl, rfl, rfl⟩ := trodAll_nil r2
  obtain rfl : args = #[v0, v1, v2] := by cases args; simp_all
  obtain ⟨rfl, rfl⟩ := trodVars_none hV
  obtain ⟨a0, len0, cap0, rfl⟩ := okWide_slice Try.underlying22 (hval 0 22 v0 rfl rfl)
  have k0 := h0
  have lt0 : ∀ x ∈ p0, x.block < W.heap.size := by obtain ⟨m, hm⟩ := k0; exact DataW.trod_lt m _ _ _ hm
  have c0 : len0 ≤ cap0 := by obtain ⟨m, hm⟩ := k0; exact (open_cap Try.underlying22 hm).1
  obtain ⟨z0, w0⟩ := (by obtain ⟨fuel, hf⟩ := h0; exact open_bytes hf : ∃ z : List Int, Lies (Old W) W (.slice a0 len0 cap0) (z.map (Value.int .u8)) ∧ Bytes z)
  obtain ⟨a1, len1, cap1, rfl⟩ := okWide_slice Try.underlying22 (hval 1 22 v1 rfl rfl)
  have k1 := h1
  have lt1 : ∀ x ∈ p1, x.block < W.heap.size := by obtain ⟨m, hm⟩ := k1; exact DataW.trod_lt m _ _ _ hm
  have c1 : len1 ≤ cap1 := by obtain ⟨m, hm⟩ := k1; exact (open_cap Try.underlying22 hm).1
  obtain ⟨z1, w1⟩ := (by obtain ⟨fuel, hf⟩ := h1; exact open_bytes hf : ∃ z : List Int, Lies (Old W) W (.slice a1 len1 cap1) (z.map (Value.int .u8)) ∧ Bytes z)
  obtain ⟨a2, len2, cap2, rfl⟩ := okWide_slice Try.underlying22 (hval 2 22 v2 rfl rfl)
  have k2 := h2
  have lt2 : ∀ x ∈ p2, x.block < W.heap.size := by obtain ⟨m, hm⟩ := k2; exact DataW.trod_lt m _ _ _ hm
  have c2 : len2 ≤ cap2 := by obtain ⟨m, hm⟩ := k2; exact (open_cap Try.underlying22 hm).1
  obtain ⟨z2, w2⟩ := (by obtain ⟨fuel, hf⟩ := h2; exact open_bytes hf : ∃ z : List Int, Lies (Old W) W (.slice a2 len2 cap2) (z.map (Value.int .u8)) ∧ Bytes z)
  clear hA0 hval0
  refine (walk W a0 len0 cap0 z0 a1 len1 cap1 z1 a2 len2 cap2 z2 w0 c0 w1 c1 w2 c2).mono fun e W' ⟨he, bel⟩ => ?_
  subst he
  exact ⟨_, rfl, _, _, _, [], _, [], hW', trodAll_mk1 (shut_bool Try.underlying4 _), (trodAll_cons_mk (Below.trod laidOut (by kernel_rfl) (of_decide_eq_true (by kernel_rfl)) k0 bel lt0) (trodAll_cons_mk (Below.trod laidOut (by kernel_rfl) (of_decide_eq_true (by kernel_rfl)) k1 bel lt1) (trodAll_cons_mk (Below.trod laidOut (by kernel_rfl) (of_decide_eq_true (by kernel_rfl)) k2 bel lt2) trodAll_mk0))), rfl, bel.frame _, fun h => by cases h⟩

theorem over : Rows.sealXorsRow.holds Try.pinned (OpenSpec.ofChange Rows.sealXorsSpec) :=
  OpenClaim.holds_of_wide 4 Try.f4 rfl rfl rfl rfl rfl rfl rfl ⟨rfl, rfl, rfl, rfl, rfl⟩ rfl rfl rfl rfl rfl (by kernel_rfl) Try.func4 (by kernel_rfl)
    (of_decide_eq_true (by kernel_rfl)) (by unfold Func.isWrapper; first | (rw [if_pos (by decide +kernel)]; kernel_rfl) | (rw [if_neg (by decide +kernel)]; exact ⟨rfl, rfl⟩))
    (fun os started H enc _ => lifted os started H enc)

theorem proved : Rows.SealXorsSaid := over
#print axioms proved
end Go.Proofs.Ytmchjnmmeankgaa.sealXors
namespace Go.Proofs.Ytmchjnmmeankgaa
theorem sealXors_holds : Rows.SealXorsSaid := sealXors.proved
#print axioms sealXors_holds
end Go.Proofs.Ytmchjnmmeankgaa
