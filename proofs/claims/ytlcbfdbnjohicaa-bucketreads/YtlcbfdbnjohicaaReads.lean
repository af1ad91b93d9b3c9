/-
  Proved: for every z and all bytes the law BucketReads returns true; no condition.
-/
import Derived.Test.YtlcbfdbnjohicaaArg
import Derived.Test.YtlcbfdbnjohicaaRows
namespace Go.Proofs.Ytlcbfdbnjohicaa.bucketReads
open Go.ChangeShapes Go.WideShapes Go.ChangeAt Go.RowKit Go.Proofs.Ytlcbfdbnjohicaa.hp Go.Proofs.Ytlcbfdbnjohicaa.dg Go.Proofs.Ytlcbfdbnjohicaa.st
set_option linter.unusedVariables false

theorem early (w : World) (z : Int) (a : Option Addr) (n c : Nat) (hn : 2000 < n) (hc : n ≤ 9223372036854775807) :
    Calls Try.prog 4 #[.int .i64 z, .slice a n c] w fun e w' => e = .returned (.bool true) ∧ Below w.heap.size w w' := by
  have HF := first_any
  have hni : (2000 : Int) < n := by omega
  have hci : (n : Int) ≤ 9223372036854775807 := by omega
  go_enter Try.func4, Try.ntmps4
  go_wp2_with fail
  refine (HF w).mono ?_
  rintro e w1 ⟨rfl, k1⟩
  go_wp2_with fail
  refine (HF w1).mono ?_
  rintro e w2 ⟨rfl, k2⟩
  go_wp2
  go_ret
  exact ⟨rfl, (k1.then k2).below⟩

set_option maxHeartbeats 4000000 in
theorem late (w : World) (z : Int) (a : Option Addr) (c : Nat) (zs : List Int) (hv : Lies (Old w) w (.slice a zs.length c) (zs.map (Value.int .u8))) (hb : Bytes zs) (hn : zs.length ≤ 2000) (hc1 : zs.length ≤ c) (hc2 : c ≤ 9223372036854775807) :
    Calls Try.prog 4 #[.int .i64 z, .slice a zs.length c] w fun e w' => e = .returned (.bool true) ∧ Below w.heap.size w w' := by
  have HF := first_any
  have HD : Hid (∀ W, Chg no w W → Calls Try.prog 20 #[.int .i64 z, .slice a zs.length c] W (DecR 46 (decL z zs) W)) := fun W k => decode_any W z _ zs (hv.chg k (fun _ _ h => h)) hb (by omega)
  have HR : Hid (∀ W, Chg no w W → Calls Try.prog 21 #[.int .i64 z, .slice a zs.length c] W (DecR 55 (decL z zs) W)) := by
    intro W k
    rw [dec_same hb]
    exact rdecode_any W z a c zs (hv.chg k (fun _ _ h => h)) hb (by omega) hc1 hc2
  have hl := dec_len z zs
  obtain ⟨⟨R, er⟩, hR⟩ : ∃ R, decL z zs = R := ⟨_, rfl⟩
  rw [hR] at HD HR hl
  simp only at hl
  obtain ⟨n, hzn⟩ : ∃ n, zs.length = n := ⟨_, rfl⟩
  rw [hzn] at HD HR hn ⊢
  have hni : (n : Int) ≤ 2000 := by omega
  have heq : (er == er) = true := by simp
  clear hv hb hc1 hc2 hR hzn
  go_enter Try.func4, Try.ntmps4
  go_wp2_with fail
  refine (HF w).mono ?_
  rintro e w1 ⟨rfl, k1⟩
  go_wp2_with fail
  refine (HD.out w1 k1).mono ?_
  rintro e w2 ⟨v2, xs, D, rfl, hx, N2, hD⟩
  obtain ⟨a2, c2, rfl⟩ := N2.shape
  simp only at hx ⊢
  have k2 := k1.then N2.chg
  go_wp2_with fail
  refine (HR.out w2 k2).mono ?_
  rintro e w3 ⟨v3, ys, E, rfl, hy, N3, hE⟩
  obtain ⟨a3, c3, rfl⟩ := N3.shape
  simp only at hy ⊢
  have k3 := k2.then N3.chg
  have hxl := abs_bound hx hl
  have hyl := abs_bound hy hl
  have hxy : sameL (abs xs) (abs ys) = true := by rw [hx, hy]; exact decide_eq_true rfl
  have HX : Hid (∀ W, Chg no w3 W → Calls Try.prog 12 #[.slice a2 xs.length c2] W fun e w' => ∃ v', e = .returned v' ∧ NewB 55 no W (Old W) xs v' w') := fun W k => plain_any W _ xs (N2.bks.later (N3.chg.then k)) (by omega)
  have HY : Hid (∀ W v, Bks W v xs → Chg no w3 W → Calls Try.prog 19 #[v, .slice a3 ys.length c3] W fun e w' => e = .returned (.bool true) ∧ Chg no W w') := by
    intro W v h k
    rw [← hxy]
    exact rsame_any W _ _ xs ys h (N3.bks.later k) (by omega) (by omega)
  have HK3 : Hid (Chg no w w3) := k3
  obtain ⟨n2, hn2⟩ : ∃ n2, xs.length = n2 := ⟨_, rfl⟩
  obtain ⟨n3, hn3⟩ : ∃ n3, ys.length = n3 := ⟨_, rfl⟩
  rw [hn2] at HX ⊢
  rw [hn3] at HY ⊢
  clear hx hy N2 N3 hD hE k1 k2 k3 hxl hyl hxy HD HR hn2 hn3
  go_wp2_with fail
  refine (HF w3).mono ?_
  rintro e w4 ⟨rfl, k4⟩
  go_wp2_with fail
  refine (HX.out w4 k4).mono ?_
  rintro e w5 ⟨v5, rfl, N5⟩
  have HYc := HY.out w5 v5 N5.bks (k4.then N5.chg)
  have K5 : Hid (Chg no w w5) := HK3.out.then (k4.then N5.chg)
  obtain ⟨a5, c5, rfl⟩ := N5.shape
  clear N5 k4 HX HY
  go_wp2_with fail
  refine HYc.mono ?_
  rintro e w6 ⟨rfl, k6⟩
  go_wp2
  go_ret
  exact ⟨rfl, (K5.out.then k6).below⟩

theorem walk (w : World) (z : Int) (a : Option Addr) (l c : Nat) (zs : List Int) (w0 : (Lit.int .i64 z).wf = true) (w1 : Lies (Old w) w (.slice a l c) (zs.map (Value.int .u8)) ∧ Bytes zs) (c1 : l ≤ c ∧ c ≤ maxLen) :
    Calls Try.prog 4 #[.int .i64 z, .slice a l c] w fun e w' => e = .returned (.bool true) ∧ Below w.heap.size w w' := by
  have hm : maxLen ≤ 9223372036854775807 := by unfold maxLen; omega
  by_cases hh : 2000 < l
  · exact early w z a l c hh (by omega)
  · obtain ⟨x0, y0, h0, _⟩ := w1.1.slice
    rw [List.length_map] at h0
    cases h0
    exact late w z a c zs w1.1 w1.2 (by omega) c1.1 (by omega)

theorem own : ownKnob Try.prog.godebug = none := by kernel_rfl
theorem laidOut : laidOutB Try.prog = true := by kernel_rfl

set_option maxRecDepth 100000 in
theorem lifted (os : Os) (started : os.Started) (H : Type) (enc : TypeId × Value → H) :
    ReturnsInHanded {} Try.checked os 4 .any (Rows.bucketReadsSpec.pre6 enc Try.prog Try.f4 Rows.bucketReadsRow.domain false) (Rows.bucketReadsSpec.post enc Try.prog Try.f4 false true false false) := by
  refine returnsInHanded_of_change (C := Try.checked) own started (by kernel_rfl) Try.func4
    (ChangeSpec.witness6 (enc := enc) (C := Try.checked) false ⟨#[], #[.int .i64 0, .slice none 0 0], []⟩ 8 (by kernel_rfl) (by kernel_rfl) (by kernel_rfl) (by kernel_rfl)) ?_
  intro W base args ds gs before hval0 hW hcnd _
  have hval : ∀ (j : Nat) t v, Try.f4.params[j]? = some t → args[j]? = some v → Value.okWide Try.prog W .any base t v := hval0
  have hW' := hW
  obtain ⟨p, q, hA0, hV, rfl, hfz, hnd⟩ := hW
  have hA : DataW.TrodAll enc Try.prog W 0 (fun _ => true) true Try.f4.params.toList args.toList ds p := hA0
  rw [Try.params4] at hA hval
  obtain ⟨v0, vs0, d0, ds0, p0, q0, hargs, rfl, rfl, h0, r0⟩ := trodAll_cons hA
  obtain ⟨v1, vs1, d1, ds1, p1, q1, rfl, rfl, rfl, h1, r1⟩ := trodAll_cons r0
  obtain ⟨rfl, rfl, rfl⟩ := trodAll_nil r1
  obtain rfl : args = #[v0, v1] := by cases args; simp_all
  obtain ⟨rfl, rfl⟩ := trodVars_none hV
  obtain ⟨a0, rfl, rfl, rfl, w0⟩ := open_int Try.underlying3 (hval 0 3 v0 rfl rfl) h0
  obtain ⟨a1, len1, cap1, rfl⟩ := okWide_slice Try.underlying25 (hval 1 25 v1 rfl rfl)
  have k1 := h1
  have lt1 : ∀ x ∈ p1, x.block < W.heap.size := by obtain ⟨m, hm⟩ := k1; exact DataW.trod_lt m _ _ _ hm
  have c1 : len1 ≤ cap1 ∧ cap1 ≤ maxLen := by obtain ⟨m, hm⟩ := k1; exact open_cap Try.underlying25 hm
  obtain ⟨z1, w1⟩ := (by obtain ⟨fuel, hf⟩ := h1; exact open_bytes hf : ∃ z : List Int, Lies (Old W) W (.slice a1 len1 cap1) (z.map (Value.int .u8)) ∧ Bytes z)
  clear hA0 hval0
  refine (walk W a0 a1 len1 cap1 z1 w0 w1 c1).mono fun e W' ⟨he, bel⟩ => ?_
  subst he
  exact ⟨_, rfl, _, _, _, [], _, [], hW', trodAll_mk1 (shut_bool Try.underlying4 _), (trodAll_cons_mk (shut_int Try.underlying3 w0) (trodAll_cons_mk (Below.trod laidOut (by kernel_rfl) (of_decide_eq_true (by kernel_rfl)) k1 bel lt1) trodAll_mk0)), rfl, bel.frame _, fun h => by cases h⟩

theorem over : Rows.bucketReadsRow.holds Try.pinned (OpenSpec.ofChange Rows.bucketReadsSpec) :=
  OpenClaim.holds_of_wide 4 Try.f4 rfl rfl rfl rfl rfl rfl rfl ⟨rfl, rfl, rfl, rfl, rfl⟩ rfl rfl rfl rfl rfl (by kernel_rfl) Try.func4 (by kernel_rfl)
    (of_decide_eq_true (by kernel_rfl)) (by unfold Func.isWrapper; first | (rw [if_pos (by decide +kernel)]; kernel_rfl) | (rw [if_neg (by decide +kernel)]; exact ⟨rfl, rfl⟩))
    (fun os started H enc _ => lifted os started H enc)

theorem proved : Rows.BucketReadsSaid := over
end Go.Proofs.Ytlcbfdbnjohicaa.bucketReads
namespace Go.Proofs.Ytlcbfdbnjohicaa
theorem bucketReads_holds : Rows.BucketReadsSaid := bucketReads.proved
#print axioms bucketReads_holds
end Go.Proofs.Ytlcbfdbnjohicaa
