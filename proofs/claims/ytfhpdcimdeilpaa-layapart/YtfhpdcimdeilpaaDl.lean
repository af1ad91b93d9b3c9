/- The law LayTells, of configurations that may not be. -/
import Derived.Test.YtfhpdcimdeilpaaDk
import Derived.Below
namespace Go.Proofs.Ytfhpdcimdeilpaa.tells
open Go.ChangeShapes Go.WideShapes Go.ChangeAt Go.RowKit Go.Proofs.Ytfhpdcimdeilpaa.hp Go.Proofs.Ytfhpdcimdeilpaa.st
set_option linter.unusedVariables false
set_option linter.unusedSimpArgs false

theorem rmayI (w : World) (I : Ic) (a : Option Addr) (len c : Nat) (A : Nat → Option Addr) (C : Nat → Nat) (Z : Nat → List Int) (R : Rws w a len A C Z) (B : Bool) (hB : B = true ↔ mayP I len Z) : Calls Try.prog 11 #[cfgI I (.slice a len c)] w fun e w' => e = .returned (.bool B) ∧ Chg no w w' := by
  by_cases h : okI I len
  · exact rmay_tab w I a len c A C Z h R B (hB.trans ⟨fun x => x.2, fun x => ⟨h, x⟩⟩)
  · have hb : B = false := by
      rw [Bool.eq_false_iff]
      exact fun x => h (hB.1 x).1
    subst hb
    exact rmay_num w I a len c h

theorem Rws.chg {w W : World} {a : Option Addr} {len : Nat} {A : Nat → Option Addr} {C : Nat → Nat} {Z : Nat → List Int} (R : Rws w a len A C Z) (k : Chg no w W) : Rws W a len A C Z := fun r hr => by
  obtain ⟨y, h1, h2, h3, h4, h5⟩ := R r hr
  exact ⟨y, h1, k.cell h2 id, h3, h4, (h5.chg k (fun _ _ h => h)).mono (fun j hj => Nat.lt_of_lt_of_le hj k.size)⟩

set_option maxRecDepth 100000 in
set_option maxHeartbeats 8000000 in
theorem nay (V : Ways) (w : World) (I : Ic) (a : Option Addr) (len c : Nat) (A : Nat → Option Addr) (C : Nat → Nat) (Z : Nat → List Int) (R : Rws w a len A C Z) (hlen : len ≤ maxLen) (hM : ¬ mayP I len Z) (i j : Int) :
    Calls Try.prog 3 #[cfgI I (.slice a len c), .int .i64 i, .int .i64 j] w fun e w' => e = .returned (.bool true) ∧ Below w.heap.size w w' := by
  have HF : Hid (∀ W, Chg no w W → Calls Try.prog 8 #[cfgI I (.slice a len c)] W (FewRes len Z W)) := fun W k => few_any W I a len c A C Z hlen (Rws.chg R k)
  have HO : Hid (∀ W, Chg no w W → Calls Try.prog 9 #[cfgI I (.slice a len c)] W fun e w' => ∃ J a' n' c', e = .returned (.tuple #[cfgI J (.slice a' n' c'), .int .i64 1]) ∧ Chg no W w') := fun W k => V.of0 W I a len c A C Z (Rws.chg R k) hlen hM
  have HP : Hid (∀ W, Chg no w W → Calls Try.prog 10 #[cfgI I (.slice a len c)] W fun e w' => e = .returned (.bool false) ∧ Chg no W w') := fun W k => V.may W I a len c A C Z (Rws.chg R k) hlen false (by simp [hM])
  have HD : Hid (∀ W, Chg no w W → Calls Try.prog 11 #[cfgI I (.slice a len c)] W fun e w' => e = .returned (.bool false) ∧ Chg no W w') := fun W k => rmayI W I a len c A C Z (Rws.chg R k) false (by simp [hM])
  obtain ⟨h, z, b, r, rd, wt, s, p, q, t⟩ := I
  obtain ⟨tv, htv⟩ : ∃ tv, Value.slice a len c = tv := ⟨_, rfl⟩
  simp only [htv] at HF HO HP HD ⊢
  clear R hlen hM htv
  go_enter Try.func3, Try.ntmps3
  go_wp2_with fail
  obtain ⟨w1, hw1⟩ : ∃ w1, w.alloc (cfgOI h z b r rd wt s p q t tv) = w1 := ⟨_, rfl⟩
  have hb : w1.heap[w.heap.size]? = some (cfgOI h z b r rd wt s p q t tv) := by rw [← hw1]; exact heap_alloc_new w _
  have K1 : Hid (Chg no w w1) := by rw [← hw1]; exact (Chg.refl no w).alloc _
  rw [hw1]
  obtain ⟨g, hg⟩ : ∃ g, w.heap.size = g := ⟨_, rfl⟩
  rw [hg] at hb ⊢
  have HG : Hid (w.heap.size = g) := hg
  have HB : Hid (∀ W, Chg no w1 W → W.heap[g]? = some (cfgOI h z b r rd wt s p q t tv)) := fun W k => k.heap hb id
  clear hw1 hg hb
  refine (first_any V _).mono ?_
  rintro e w2 ⟨rfl, k2⟩
  have K2 : Hid (Chg no w1 w2) := k2
  obtain ⟨c0, c1, c2, c3, c4, c5, c6, c7, c8, c9, c10⟩ := cfgI_cells (HB.out w2 k2)
  have HF2 := HF.out w2 (K1.out.then k2)
  clear k2 HF
  go_wp2_with fail
  refine HF2.mono ?_
  rintro e w3 ⟨B, rfl, k3, hB⟩
  have K3 : Hid (Chg no w1 w3) := K2.out.then k3
  clear HF2 k3 hB c0 c1 c2 c3 c4 c5 c6 c7 c8 c9 c10 K2
  cases B
  · go_wp2_with fail
    refine (first_any V _).mono ?_
    rintro e w4 ⟨rfl, k4⟩
    go_wp2
    go_ret
    have := ((K1.out.then K3.out).then k4).below
    exact ⟨rfl, this⟩
  · obtain ⟨c0, c1, c2, c3, c4, c5, c6, c7, c8, c9, c10⟩ := cfgI_cells (HB.out w3 K3.out)
    have HO3 := HO.out w3 (K1.out.then K3.out)
    go_wp2_with fail
    refine HO3.mono ?_
    rintro e w4 ⟨J, a', n', c', rfl, k4⟩
    have K4 : Hid (Chg no w1 w4) := K3.out.then k4
    obtain ⟨jh, jz, jb, jr, jrd, jwt, js, jp, jq, jt⟩ := J
    clear HO3 k4 c0 c1 c2 c3 c4 c5 c6 c7 c8 c9 c10 K3 HO
    go_wp2_with fail
    obtain ⟨w5, hw5⟩ : ∃ w5, w4.alloc (layO jh jz jb jr jrd jwt js jp jq jt (.slice a' n' c')) = w5 := ⟨_, rfl⟩
    have K5 : Hid (Chg no w1 w5) := by rw [← hw5]; exact K4.out.alloc _
    rw [hw5]
    clear hw5 K4
    obtain ⟨pK, hpK⟩ : ∃ pK : World → Prop, ∀ w', pK w' ↔ Chg no w5 w' := ⟨_, fun _ => Iff.rfl⟩
    obtain ⟨x0, x1, x2, x3, x4, x5, x6, x7, x8, x9, x10⟩ := cfgI_facts hpK (HB.out w5 K5.out)
    have iK : Nonempty (far.InC pK) := ⟨⟨w5, (hpK _).2 (Chg.refl no w5)⟩⟩
    have HpK : Hid (∀ w', pK w' ↔ Chg no w5 w') := hpK
    have Y0 : Chg no w5 w5.drew := (Chg.refl no w5).drew
    have KW : Hid (Chg no w w5) := K1.out.then K5.out
    clear hpK
    refine far.region_farM (fun κ w' => pK w') [1, 3, 9] (by kernel_rfl) (by kernel_rfl) ((HpK.out _).2 Y0) ?_
    intro LP e1' e2' e3'
    refine far.farO_stretch pK 1 0 3 e1' e2' e3' (by kernel_rfl) (by kernel_rfl) (fun κ w' hk1 hk2 hC => hC) ?_
    simp only [List.take_succ_cons, List.take_zero, List.drop_succ_cons, List.drop_zero, Nat.reduceAdd]
    repeat (go_big_quiet_step (fail))
    refine wpQuiet_nil ?_
    refine far.farO_enter e1' e2' 0 rfl rfl 10 #[cfgI ⟨h, z, b, r, rd, wt, s, p, q, t⟩ tv] (by kernel_rfl) (by kernel_rfl) ?_
    refine (HP.out _ (KW.out.then Y0)).mono ?_
    rintro e w6 ⟨rfl, k1⟩
    have Y1 := Y0.then k1
    refine ⟨_, rfl, (HpK.out _).2 Y1, ?_⟩
    simp only [Act.put, List.setIfInBounds_toArray, List.set_cons_succ, List.set_cons_zero, Nat.reduceAdd]
    refine far.farO_stretch pK 1 0 3 e1' e2' e3' (by kernel_rfl) (by kernel_rfl) (fun κ w' hk1 hk2 hC => hC) ?_
    simp only [List.take_succ_cons, List.take_zero, List.drop_succ_cons, List.drop_zero, Nat.reduceAdd]
    repeat (go_big_quiet_step (fail))
    refine wpQuiet_nil ?_
    refine far.farO_enter e1' e2' 1 rfl rfl 11 #[cfgI ⟨h, z, b, r, rd, wt, s, p, q, t⟩ tv] (by kernel_rfl) (by kernel_rfl) ?_
    refine (HD.out _ (KW.out.then Y1)).mono ?_
    rintro e w7 ⟨rfl, k2⟩
    have Y2 := Y1.then k2
    refine ⟨_, rfl, (HpK.out _).2 Y2, ?_⟩
    simp only [Act.put, List.setIfInBounds_toArray, List.set_cons_succ, List.set_cons_zero, Nat.reduceAdd]
    refine far.farO_stretch pK 5 0 3 e1' e2' e3' (by kernel_rfl) (by kernel_rfl) (fun κ w' hk1 hk2 hC => hC) ?_
    simp only [List.take_succ_cons, List.take_zero, List.drop_succ_cons, List.drop_zero, Nat.reduceAdd]
    repeat (go_big_quiet_step (fail))
    refine wpQuiet_nil ?_
    refine far.farO_enter e1' e2' 2 rfl rfl 10 #[cfgI ⟨h, z, b, r, rd, wt, s, p, q, t⟩ tv] (by kernel_rfl) (by kernel_rfl) ?_
    refine (HP.out _ (KW.out.then Y2)).mono ?_
    rintro e w8 ⟨rfl, k3⟩
    have Y3 := Y2.then k3
    refine ⟨_, rfl, (HpK.out _).2 Y3, ?_⟩
    simp only [Act.put, List.setIfInBounds_toArray, List.set_cons_succ, List.set_cons_zero, Nat.reduceAdd]
    refine far.farO_stretch pK 10 0 3 e1' e2' e3' (by kernel_rfl) (by kernel_rfl) (fun κ w' hk1 hk2 hC => hC) ?_
    simp only [List.take_succ_cons, List.take_zero, List.drop_succ_cons, List.drop_zero, Nat.reduceAdd]
    repeat (go_big_quiet_step (fail))
    refine wpQuiet_nil ?_
    refine far.farO_nil ?_
    go_wp2_with fail
    refine (first_any V _).mono ?_
    rintro e w9 ⟨rfl, k9⟩
    have := ((KW.out.then Y3).then k9).below
    go_wp2
    go_ret
    exact ⟨rfl, this⟩

end Go.Proofs.Ytfhpdcimdeilpaa.tells
