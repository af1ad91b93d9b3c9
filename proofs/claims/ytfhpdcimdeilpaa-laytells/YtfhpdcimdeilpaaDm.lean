/- The law LayTells, of configurations that may be. -/
import Derived.Test.YtfhpdcimdeilpaaDl
import Derived.Test.YtfhpdcimdeilpaaEqa
import Derived.Test.YtfhpdcimdeilpaaIct
namespace Go.Proofs.Ytfhpdcimdeilpaa.st
open Go.ChangeShapes Go.WideShapes Go.ChangeAt Go.RowKit Go.Proofs.Ytfhpdcimdeilpaa.hp
set_option linter.unusedVariables false
set_option linter.unusedSimpArgs false

theorem rtickA (w : World) (K : Cf) (hK : okC K) (a : Option Addr) (n c : Nat) (i : Int) (hi : i ≤ 4611686018427387904) : Calls Try.prog 43 #[cfgV K (.slice a n c), .int .i64 i] w fun e w' => e = .returned (.int .i64 (tickA K i)) ∧ Chg no w w' := by
  by_cases h : 0 ≤ i
  · obtain ⟨k, rfl⟩ : ∃ k : Nat, i = k := ⟨i.toNat, by omega⟩
    exact rtick_any w K hK a n c k hi
  · have e : tickA K i = 0 := by unfold tickA; rw [if_neg h]
    rw [e]
    exact rtick_no w K a n c i (by omega)

theorem rrecA (w : World) (K : Cf) (hK : okC K) (a : Option Addr) (n c : Nat) (i j : Int) (hi : i ≤ 4611686018427387903) (hj : j ≤ 2097152) : Calls Try.prog 45 #[cfgV K (.slice a n c), .int .i64 i, .int .i64 j] w fun e w' => e = .returned (.int .i64 (recA K i j)) ∧ Chg no w w' := by
  by_cases h : 0 ≤ i ∧ 0 ≤ j
  · obtain ⟨k, rfl⟩ : ∃ k : Nat, i = k := ⟨i.toNat, by omega⟩
    obtain ⟨l, rfl⟩ : ∃ l : Nat, j = l := ⟨j.toNat, by omega⟩
    exact rrec_any w K hK a n c k l hi hj
  · have e : recA K i j = 0 := by unfold recA; rw [if_neg h]
    rw [e]
    exact rrec_no w K a n c i j (by omega)

end Go.Proofs.Ytfhpdcimdeilpaa.st
namespace Go.Proofs.Ytfhpdcimdeilpaa.tells
open Go.ChangeShapes Go.WideShapes Go.ChangeAt Go.RowKit Go.Proofs.Ytfhpdcimdeilpaa.hp Go.Proofs.Ytfhpdcimdeilpaa.st
set_option linter.unusedVariables false
set_option linter.unusedSimpArgs false

set_option maxRecDepth 100000 in
set_option maxHeartbeats 16000000 in
theorem far_ (V : Ways) (w : World) (K : Cf) (hK : okC K) (a : Option Addr) (len c : Nat) (A : Nat → Option Addr) (C : Nat → Nat) (Z : Nat → List Int) (R : Rws w a len A C Z) (hlen : len ≤ maxLen) (hM : mayP (intC K) len Z) (i j : Int) (hij : 1125899906842624 < i ∨ 1125899906842624 < j) :
    Calls Try.prog 3 #[cfgV K (.slice a len c), .int .i64 i, .int .i64 j] w fun e w' => e = .returned (.bool true) ∧ Below w.heap.size w w' := by
  have HF : Hid (∀ W, Chg no w W → Calls Try.prog 8 #[cfgV K (.slice a len c)] W (FewRes len Z W)) := fun W k => few_any W (intC K) a len c A C Z hlen (Rws.chg R k)
  have HO : Hid (∀ W, Chg no w W → Calls Try.prog 9 #[cfgV K (.slice a len c)] W fun e w' => ∃ a' n' c', e = .returned (.tuple #[layV K (.slice a' n' c'), .int .i64 0]) ∧ Chg no W w') := fun W k => by
    have := V.of1 W (intC K) a len c A C Z (Rws.chg R k) hlen hM
    rw [natC_intC] at this
    exact this
  have HP : Hid (∀ W, Chg no w W → Calls Try.prog 10 #[cfgV K (.slice a len c)] W fun e w' => e = .returned (.bool true) ∧ Chg no W w') := fun W k => V.may W (intC K) a len c A C Z (Rws.chg R k) hlen true (by simp [hM])
  have HD : Hid (∀ W, Chg no w W → Calls Try.prog 11 #[cfgV K (.slice a len c)] W fun e w' => e = .returned (.bool true) ∧ Chg no W w') := fun W k => rmayI W (intC K) a len c A C Z (Rws.chg R k) true (by simp [hM])
  have HFi : Hid (∀ W, Calls Try.prog 7 #[] W fun e w' => e = .returned (.bool true) ∧ Chg no W w') := fun W => first_any V W
  have HP12 : Hid (∀ W a' n' c', Calls Try.prog 12 #[layV K (.slice a' n' c')] W fun e w' => e = .returned (.int .i64 ((payN K : Nat) : Int)) ∧ Chg no W w') := fun W a' n' c' => V.pay W K hK a' n' c'
  have HD13 : Hid (∀ W, Calls Try.prog 13 #[cfgV K (.slice a len c)] W fun e w' => e = .returned (.int .i64 ((payN K : Nat) : Int)) ∧ Chg no W w') := fun W => rpay_any W K hK a len c
  have HP14 : Hid (∀ W a' n' c', Calls Try.prog 14 #[layV K (.slice a' n' c')] W fun e w' => e = .returned (.int .i64 ((12 + payN K : Nat) : Int)) ∧ Chg no W w') := fun W a' n' c' => V.cell W K hK a' n' c'
  have HD15 : Hid (∀ W, Calls Try.prog 15 #[cfgV K (.slice a len c)] W fun e w' => e = .returned (.int .i64 ((12 + payN K : Nat) : Int)) ∧ Chg no W w') := fun W => rcell_any W K hK a len c
  have HP16 : Hid (∀ W a' n' c', Calls Try.prog 16 #[layV K (.slice a' n' c')] W fun e w' => e = .returned (.int .i64 ((slotsN K : Nat) : Int)) ∧ Chg no W w') := fun W a' n' c' => V.slots W K hK a' n' c'
  have HD17 : Hid (∀ W, Calls Try.prog 17 #[cfgV K (.slice a len c)] W fun e w' => e = .returned (.int .i64 ((slotsN K : Nat) : Int)) ∧ Chg no W w') := fun W => rslots_any W K hK a len c
  have HP18 : Hid (∀ W a' n' c', Calls Try.prog 18 #[layV K (.slice a' n' c'), .int .i64 i] W fun e w' => e = .returned (.int .i64 (batchI K i)) ∧ Chg no W w') := fun W a' n' c' => V.batch W K hK a' n' c' i
  have HD19 : Hid (∀ W, Calls Try.prog 19 #[cfgV K (.slice a len c), .int .i64 i] W fun e w' => e = .returned (.int .i64 (batchI K i)) ∧ Chg no W w') := fun W => rbatch_any W K a len c i
  have HP20 : Hid (∀ W a' n' c', Calls Try.prog 20 #[layV K (.slice a' n' c')] W fun e w' => e = .returned (.int .i64 12) ∧ Chg no W w') := fun W a' n' c' => V.logl W K hK a' n' c'
  have HP21 : Hid (∀ W a' n' c', Calls Try.prog 21 #[layV K (.slice a' n' c')] W fun e w' => e = .returned (.int .i64 ((deltaN K : Nat) : Int)) ∧ Chg no W w') := fun W a' n' c' => V.deltal W K hK a' n' c'
  have HD22 : Hid (∀ W, Calls Try.prog 22 #[cfgV K (.slice a len c)] W fun e w' => e = .returned (.int .i64 ((deltaN K : Nat) : Int)) ∧ Chg no W w') := fun W => rdelta_any W K hK a len c
  have HP23 : Hid (∀ W a' n' c', Calls Try.prog 23 #[layV K (.slice a' n' c')] W fun e w' => e = .returned (.int .i64 ((fullN K : Nat) : Int)) ∧ Chg no W w') := fun W a' n' c' => V.fulll W K hK a' n' c'
  have HD24 : Hid (∀ W, Calls Try.prog 24 #[cfgV K (.slice a len c)] W fun e w' => e = .returned (.int .i64 ((fullN K : Nat) : Int)) ∧ Chg no W w') := fun W => rfull_any W K hK a len c
  have HP25 : Hid (∀ W a' n' c', Calls Try.prog 25 #[layV K (.slice a' n' c')] W fun e w' => e = .returned (.int .i64 ((clogN K : Nat) : Int)) ∧ Chg no W w') := fun W a' n' c' => V.clogl W K hK a' n' c'
  have HD26 : Hid (∀ W, Calls Try.prog 26 #[cfgV K (.slice a len c)] W fun e w' => e = .returned (.int .i64 ((clogN K : Nat) : Int)) ∧ Chg no W w') := fun W => rclog_any W K hK a len c
  obtain ⟨P, hP⟩ : ∃ x, payN K = x := ⟨_, rfl⟩
  obtain ⟨S, hS⟩ : ∃ x, slotsN K = x := ⟨_, rfl⟩
  obtain ⟨LD, hLD⟩ : ∃ x, deltaN K = x := ⟨_, rfl⟩
  obtain ⟨LF, hLF⟩ : ∃ x, fullN K = x := ⟨_, rfl⟩
  obtain ⟨LC, hLC⟩ : ∃ x, clogN K = x := ⟨_, rfl⟩
  obtain ⟨BI, hBI⟩ : ∃ x, batchI K i = x := ⟨_, rfl⟩
  simp only [areaV, hP, hS, hLD, hLF, hLC, hBI] at HP12 HD13 HP14 HD15 HP16 HD17 HP18 HD19 HP20 HP21 HD22 HP23 HD24 HP25 HD26
  obtain ⟨h, z, b, r, rd, wr, s, p, q, t⟩ := K
  try simp only at *
  clear hK R hlen hM hP hS hLD hLF hLC hBI
  go_enter Try.func3, Try.ntmps3
  go_wp2_with fail
  obtain ⟨w1, hw1⟩ : ∃ w1, w.alloc (cfgO h z b r rd wr s p q t (.slice a len c)) = w1 := ⟨_, rfl⟩
  have hb : w1.heap[w.heap.size]? = some (cfgO h z b r rd wr s p q t (.slice a len c)) := by rw [← hw1]; exact heap_alloc_new w _
  have K1 : Hid (Chg no w w1) := by rw [← hw1]; exact (Chg.refl no w).alloc _
  rw [hw1]
  obtain ⟨gc, hg⟩ : ∃ g, w.heap.size = g := ⟨_, rfl⟩
  rw [hg] at hb ⊢
  have HB : Hid (∀ W, Chg no w1 W → W.heap[gc]? = some (cfgO h z b r rd wr s p q t (.slice a len c))) := fun W k => k.heap hb id
  have HG : Hid (w.heap.size = gc) := hg
  clear hw1 hg hb
  refine (HFi.out _).mono ?_
  rintro e w2 ⟨rfl, k2⟩
  have K2 : Hid (Chg no w1 w2) := k2
  obtain ⟨c0, c1, c2, c3, c4, c5, c6, c7, c8, c9, c10⟩ := cfg_cells (HB.out w2 k2)
  have HF2 := HF.out w2 (K1.out.then k2)
  clear k2 HF
  go_wp2_with fail
  refine HF2.mono ?_
  rintro e w3 ⟨B, rfl, k3, hB⟩
  have K3 : Hid (Chg no w1 w3) := K2.out.then k3
  clear HF2 k3 hB c0 c1 c2 c3 c4 c5 c6 c7 c8 c9 c10 K2
  cases B
  · go_wp2_with fail
    refine (HFi.out _).mono ?_
    rintro e w4 ⟨rfl, k4⟩
    go_wp2
    go_ret
    exact ⟨rfl, ((K1.out.then K3.out).then k4).below⟩
  obtain ⟨c0, c1, c2, c3, c4, c5, c6, c7, c8, c9, c10⟩ := cfg_cells (HB.out w3 K3.out)
  have HO3 := HO.out w3 (K1.out.then K3.out)
  go_wp2_with fail
  refine HO3.mono ?_
  rintro e w4 ⟨a', n', c', rfl, k4⟩
  have K4 : Hid (Chg no w1 w4) := K3.out.then k4
  clear HO3 k4 c0 c1 c2 c3 c4 c5 c6 c7 c8 c9 c10 K3 HO
  go_wp2_with fail
  obtain ⟨w5, hw5⟩ : ∃ w5, w4.alloc (layO h z b r rd wr s p q t (.slice a' n' c')) = w5 := ⟨_, rfl⟩
  have K5 : Hid (Chg no w1 w5) := by rw [← hw5]; exact K4.out.alloc _
  have hl : w5.heap[w4.heap.size]? = some (layO h z b r rd wr s p q t (.slice a' n' c')) := by rw [← hw5]; exact heap_alloc_new w4 _
  rw [hw5]
  obtain ⟨gl, hgl⟩ : ∃ g, w4.heap.size = g := ⟨_, rfl⟩
  rw [hgl] at hl ⊢
  have HT : Hid (Tb gc gl h z b r rd wr s p q t (.slice a len c) (.slice a' n' c') w5) := ⟨HB.out w5 K5.out, hl⟩
  have KW : Hid (Chg no w w5) := K1.out.then K5.out
  clear hw5 K4 hl hgl HB K5 K1
  obtain ⟨pK, hpK⟩ : ∃ pK : World → Prop, ∀ w', pK w' ↔ Chg no w5 w' := ⟨_, fun _ => Iff.rfl⟩
  obtain ⟨x0, x1, x2, x3, x4, x5, x6, x7, x8, x9, x10, iK⟩ := cfg_facts hpK HT.out.box
  obtain ⟨z0, z1, z2, z3, z4, z5, z6, z7, z8, z9, z10⟩ := lay_facts hpK HT.out.lay
  have HpK : Hid (∀ w', pK w' ↔ Chg no w5 w') := hpK
  have Y0 : Chg no w5 w5.drew := (Chg.refl no w5).drew
  clear hpK
  refine far.region_farM (fun κ w' => pK w') [1, 3, 9] (by kernel_rfl) (by kernel_rfl) ((HpK.out _).2 Y0) ?_
  intro LP e1' e2' e3'
  refine far.farO_stretch pK 1 0 3 e1' e2' e3' (by kernel_rfl) (by kernel_rfl) (fun κ w' hk1 hk2 hC => hC) ?_
  simp only [List.take_succ_cons, List.take_zero, List.drop_succ_cons, List.drop_zero, Nat.reduceAdd]
  repeat (go_big_quiet_step (fail))
  refine wpQuiet_nil ?_
  refine far.farO_enter e1' e2' 0 rfl rfl 10 #[cfgV ⟨h, z, b, r, rd, wr, s, p, q, t⟩ (.slice a len c)] (by kernel_rfl) (by kernel_rfl) ?_
  refine (HP.out _ (KW.out.then Y0)).mono ?_
  rintro e w6 ⟨rfl, k1⟩
  have Y1 := Y0.then k1
  refine ⟨_, rfl, (HpK.out _).2 Y1, ?_⟩
  simp only [Act.put, List.setIfInBounds_toArray, List.set_cons_succ, List.set_cons_zero, Nat.reduceAdd]
  refine far.farO_stretch pK 1 0 3 e1' e2' e3' (by kernel_rfl) (by kernel_rfl) (fun κ w' hk1 hk2 hC => hC) ?_
  simp only [List.take_succ_cons, List.take_zero, List.drop_succ_cons, List.drop_zero, Nat.reduceAdd]
  repeat (go_big_quiet_step (fail))
  refine wpQuiet_nil ?_
  refine far.farO_enter e1' e2' 1 rfl rfl 11 #[cfgV ⟨h, z, b, r, rd, wr, s, p, q, t⟩ (.slice a len c)] (by kernel_rfl) (by kernel_rfl) ?_
  refine (HD.out _ (KW.out.then Y1)).mono ?_
  rintro e w7 ⟨rfl, k2⟩
  have Y2 := Y1.then k2
  refine ⟨_, rfl, (HpK.out _).2 Y2, ?_⟩
  simp only [Act.put, List.setIfInBounds_toArray, List.set_cons_succ, List.set_cons_zero, Nat.reduceAdd]
  refine far.farO_stretch pK 5 0 3 e1' e2' e3' (by kernel_rfl) (by kernel_rfl) (fun κ w' hk1 hk2 hC => hC) ?_
  simp only [List.take_succ_cons, List.take_zero, List.drop_succ_cons, List.drop_zero, Nat.reduceAdd]
  repeat (go_big_quiet_step (fail))
  refine wpQuiet_nil ?_
  refine far.farO_enter e1' e2' 2 rfl rfl 10 #[cfgV ⟨h, z, b, r, rd, wr, s, p, q, t⟩ (.slice a len c)] (by kernel_rfl) (by kernel_rfl) ?_
  refine (HP.out _ (KW.out.then Y2)).mono ?_
  rintro e w8 ⟨rfl, k3⟩
  have Y3 := Y2.then k3
  refine ⟨_, rfl, (HpK.out _).2 Y3, ?_⟩
  simp only [Act.put, List.setIfInBounds_toArray, List.set_cons_succ, List.set_cons_zero, Nat.reduceAdd]
  refine far.farO_stretch pK 10 0 3 e1' e2' e3' (by kernel_rfl) (by kernel_rfl) (fun κ w' hk1 hk2 hC => hC) ?_
  simp only [List.take_succ_cons, List.take_zero, List.drop_succ_cons, List.drop_zero, Nat.reduceAdd]
  repeat (go_big_quiet_step (fail))
  refine wpQuiet_nil ?_
  refine far.farO_nil ?_
  have HT2 : Hid (Tb gc gl h z b r rd wr s p q t (.slice a len c) (.slice a' n' c') w8) := HT.out.later Y3
  clear HT
  have HT : Hid (Tb gc gl h z b r rd wr s p q t (.slice a len c) (.slice a' n' c') w8) := HT2.out
  clear HT2
  have KX : Hid (Chg no w w8) := KW.out.then Y3
  clear HpK Y0 x0 z0 x1 z1 x2 z2 x3 z3 x4 z4 x5 z5 x6 z6 x7 z7 x8 z8 x9 z9 x10 z10 iK KW Y1 Y2 Y3 k1 k2 k3 HP HD
  clear e1' e2' e3' LP pK
  go_wp2_with fail
  obtain ⟨pK, hpK⟩ : ∃ pK : World → Prop, ∀ w', pK w' ↔ Chg no w8 w' := ⟨_, fun _ => Iff.rfl⟩
  obtain ⟨x0, x1, x2, x3, x4, x5, x6, x7, x8, x9, x10, iK⟩ := cfg_facts hpK HT.out.box
  obtain ⟨z0, z1, z2, z3, z4, z5, z6, z7, z8, z9, z10⟩ := lay_facts hpK HT.out.lay
  have HpK : Hid (∀ w', pK w' ↔ Chg no w8 w') := hpK
  have Y0 : Chg no w8 w8.drew := (Chg.refl no w8).drew
  clear hpK
  refine far.region_farM (fun κ w' => pK w') [1, 3, 7, 9, 14, 16, 22, 25, 30, 35, 37, 42, 44, 49, 51] (by kernel_rfl) (by kernel_rfl) ((HpK.out _).2 Y0) ?_
  intro LP e1' e2' e3'
  refine far.farO_stretch pK 1 0 15 e1' e2' e3' (by kernel_rfl) (by kernel_rfl) (fun κ w' hk1 hk2 hC => hC) ?_
  simp only [List.take_succ_cons, List.take_zero, List.drop_succ_cons, List.drop_zero, Nat.reduceAdd]
  repeat (go_big_quiet_step (fail))
  refine wpQuiet_nil ?_
  refine far.farO_enter e1' e2' 0 rfl rfl 12 #[layV ⟨h, z, b, r, rd, wr, s, p, q, t⟩ (.slice a' n' c')] (by kernel_rfl) (by kernel_rfl) ?_
  refine (HP12.out _ a' n' c').mono ?_
  rintro e v1 ⟨rfl, k1⟩
  have Y1 := Y0.then k1
  refine ⟨_, rfl, (HpK.out _).2 Y1, ?_⟩
  simp only [Act.put, List.setIfInBounds_toArray, List.set_cons_succ, List.set_cons_zero, Nat.reduceAdd]
  refine far.farO_stretch pK 1 0 15 e1' e2' e3' (by kernel_rfl) (by kernel_rfl) (fun κ w' hk1 hk2 hC => hC) ?_
  simp only [List.take_succ_cons, List.take_zero, List.drop_succ_cons, List.drop_zero, Nat.reduceAdd]
  repeat (go_big_quiet_step (fail))
  refine wpQuiet_nil ?_
  refine far.farO_enter e1' e2' 1 rfl rfl 13 #[cfgV ⟨h, z, b, r, rd, wr, s, p, q, t⟩ (.slice a len c)] (by kernel_rfl) (by kernel_rfl) ?_
  refine (HD13.out _).mono ?_
  rintro e v2 ⟨rfl, k2⟩
  have Y2 := Y1.then k2
  refine ⟨_, rfl, (HpK.out _).2 Y2, ?_⟩
  simp only [Act.put, List.setIfInBounds_toArray, List.set_cons_succ, List.set_cons_zero, Nat.reduceAdd]
  refine far.farO_stretch pK 3 0 15 e1' e2' e3' (by kernel_rfl) (by kernel_rfl) (fun κ w' hk1 hk2 hC => hC) ?_
  simp only [List.take_succ_cons, List.take_zero, List.drop_succ_cons, List.drop_zero, Nat.reduceAdd]
  repeat (go_big_quiet_step (fail))
  refine wpQuiet_nil ?_
  refine far.farO_enter e1' e2' 2 rfl rfl 14 #[layV ⟨h, z, b, r, rd, wr, s, p, q, t⟩ (.slice a' n' c')] (by kernel_rfl) (by kernel_rfl) ?_
  refine (HP14.out _ a' n' c').mono ?_
  rintro e v3 ⟨rfl, k3⟩
  have Y3 := Y2.then k3
  refine ⟨_, rfl, (HpK.out _).2 Y3, ?_⟩
  simp only [Act.put, List.setIfInBounds_toArray, List.set_cons_succ, List.set_cons_zero, Nat.reduceAdd]
  refine far.farO_stretch pK 1 0 15 e1' e2' e3' (by kernel_rfl) (by kernel_rfl) (fun κ w' hk1 hk2 hC => hC) ?_
  simp only [List.take_succ_cons, List.take_zero, List.drop_succ_cons, List.drop_zero, Nat.reduceAdd]
  repeat (go_big_quiet_step (fail))
  refine wpQuiet_nil ?_
  refine far.farO_enter e1' e2' 3 rfl rfl 15 #[cfgV ⟨h, z, b, r, rd, wr, s, p, q, t⟩ (.slice a len c)] (by kernel_rfl) (by kernel_rfl) ?_
  refine (HD15.out _).mono ?_
  rintro e v4 ⟨rfl, k4⟩
  have Y4 := Y3.then k4
  refine ⟨_, rfl, (HpK.out _).2 Y4, ?_⟩
  simp only [Act.put, List.setIfInBounds_toArray, List.set_cons_succ, List.set_cons_zero, Nat.reduceAdd]
  refine far.farO_stretch pK 4 0 15 e1' e2' e3' (by kernel_rfl) (by kernel_rfl) (fun κ w' hk1 hk2 hC => hC) ?_
  simp only [List.take_succ_cons, List.take_zero, List.drop_succ_cons, List.drop_zero, Nat.reduceAdd]
  repeat (go_big_quiet_step (fail))
  refine wpQuiet_nil ?_
  refine far.farO_enter e1' e2' 4 rfl rfl 16 #[layV ⟨h, z, b, r, rd, wr, s, p, q, t⟩ (.slice a' n' c')] (by kernel_rfl) (by kernel_rfl) ?_
  refine (HP16.out _ a' n' c').mono ?_
  rintro e v5 ⟨rfl, k5⟩
  have Y5 := Y4.then k5
  refine ⟨_, rfl, (HpK.out _).2 Y5, ?_⟩
  simp only [Act.put, List.setIfInBounds_toArray, List.set_cons_succ, List.set_cons_zero, Nat.reduceAdd]
  refine far.farO_stretch pK 1 0 15 e1' e2' e3' (by kernel_rfl) (by kernel_rfl) (fun κ w' hk1 hk2 hC => hC) ?_
  simp only [List.take_succ_cons, List.take_zero, List.drop_succ_cons, List.drop_zero, Nat.reduceAdd]
  repeat (go_big_quiet_step (fail))
  refine wpQuiet_nil ?_
  refine far.farO_enter e1' e2' 5 rfl rfl 17 #[cfgV ⟨h, z, b, r, rd, wr, s, p, q, t⟩ (.slice a len c)] (by kernel_rfl) (by kernel_rfl) ?_
  refine (HD17.out _).mono ?_
  rintro e v6 ⟨rfl, k6⟩
  have Y6 := Y5.then k6
  refine ⟨_, rfl, (HpK.out _).2 Y6, ?_⟩
  simp only [Act.put, List.setIfInBounds_toArray, List.set_cons_succ, List.set_cons_zero, Nat.reduceAdd]
  refine far.farO_stretch pK 5 0 15 e1' e2' e3' (by kernel_rfl) (by kernel_rfl) (fun κ w' hk1 hk2 hC => hC) ?_
  simp only [List.take_succ_cons, List.take_zero, List.drop_succ_cons, List.drop_zero, Nat.reduceAdd]
  repeat (go_big_quiet_step (fail))
  refine wpQuiet_nil ?_
  refine far.farO_enter e1' e2' 6 rfl rfl 18 #[layV ⟨h, z, b, r, rd, wr, s, p, q, t⟩ (.slice a' n' c'), .int .i64 i] (by kernel_rfl) (by kernel_rfl) ?_
  refine (HP18.out _ a' n' c').mono ?_
  rintro e v7 ⟨rfl, k7⟩
  have Y7 := Y6.then k7
  refine ⟨_, rfl, (HpK.out _).2 Y7, ?_⟩
  simp only [Act.put, List.setIfInBounds_toArray, List.set_cons_succ, List.set_cons_zero, Nat.reduceAdd]
  refine far.farO_stretch pK 2 0 15 e1' e2' e3' (by kernel_rfl) (by kernel_rfl) (fun κ w' hk1 hk2 hC => hC) ?_
  simp only [List.take_succ_cons, List.take_zero, List.drop_succ_cons, List.drop_zero, Nat.reduceAdd]
  repeat (go_big_quiet_step (fail))
  refine wpQuiet_nil ?_
  refine far.farO_enter e1' e2' 7 rfl rfl 19 #[cfgV ⟨h, z, b, r, rd, wr, s, p, q, t⟩ (.slice a len c), .int .i64 i] (by kernel_rfl) (by kernel_rfl) ?_
  refine (HD19.out _).mono ?_
  rintro e v8 ⟨rfl, k8⟩
  have Y8 := Y7.then k8
  refine ⟨_, rfl, (HpK.out _).2 Y8, ?_⟩
  simp only [Act.put, List.setIfInBounds_toArray, List.set_cons_succ, List.set_cons_zero, Nat.reduceAdd]
  refine far.farO_stretch pK 4 0 15 e1' e2' e3' (by kernel_rfl) (by kernel_rfl) (fun κ w' hk1 hk2 hC => hC) ?_
  simp only [List.take_succ_cons, List.take_zero, List.drop_succ_cons, List.drop_zero, Nat.reduceAdd]
  repeat (go_big_quiet_step (fail))
  refine wpQuiet_nil ?_
  refine far.farO_enter e1' e2' 8 rfl rfl 20 #[layV ⟨h, z, b, r, rd, wr, s, p, q, t⟩ (.slice a' n' c')] (by kernel_rfl) (by kernel_rfl) ?_
  refine (HP20.out _ a' n' c').mono ?_
  rintro e v9 ⟨rfl, k9⟩
  have Y9 := Y8.then k9
  refine ⟨_, rfl, (HpK.out _).2 Y9, ?_⟩
  simp only [Act.put, List.setIfInBounds_toArray, List.set_cons_succ, List.set_cons_zero, Nat.reduceAdd]
  refine far.farO_stretch pK 4 0 15 e1' e2' e3' (by kernel_rfl) (by kernel_rfl) (fun κ w' hk1 hk2 hC => hC) ?_
  simp only [List.take_succ_cons, List.take_zero, List.drop_succ_cons, List.drop_zero, Nat.reduceAdd]
  repeat (go_big_quiet_step (fail))
  refine wpQuiet_nil ?_
  refine far.farO_enter e1' e2' 9 rfl rfl 21 #[layV ⟨h, z, b, r, rd, wr, s, p, q, t⟩ (.slice a' n' c')] (by kernel_rfl) (by kernel_rfl) ?_
  refine (HP21.out _ a' n' c').mono ?_
  rintro e v10 ⟨rfl, k10⟩
  have Y10 := Y9.then k10
  refine ⟨_, rfl, (HpK.out _).2 Y10, ?_⟩
  simp only [Act.put, List.setIfInBounds_toArray, List.set_cons_succ, List.set_cons_zero, Nat.reduceAdd]
  refine far.farO_stretch pK 1 0 15 e1' e2' e3' (by kernel_rfl) (by kernel_rfl) (fun κ w' hk1 hk2 hC => hC) ?_
  simp only [List.take_succ_cons, List.take_zero, List.drop_succ_cons, List.drop_zero, Nat.reduceAdd]
  repeat (go_big_quiet_step (fail))
  refine wpQuiet_nil ?_
  refine far.farO_enter e1' e2' 10 rfl rfl 22 #[cfgV ⟨h, z, b, r, rd, wr, s, p, q, t⟩ (.slice a len c)] (by kernel_rfl) (by kernel_rfl) ?_
  refine (HD22.out _).mono ?_
  rintro e v11 ⟨rfl, k11⟩
  have Y11 := Y10.then k11
  refine ⟨_, rfl, (HpK.out _).2 Y11, ?_⟩
  simp only [Act.put, List.setIfInBounds_toArray, List.set_cons_succ, List.set_cons_zero, Nat.reduceAdd]
  refine far.farO_stretch pK 4 0 15 e1' e2' e3' (by kernel_rfl) (by kernel_rfl) (fun κ w' hk1 hk2 hC => hC) ?_
  simp only [List.take_succ_cons, List.take_zero, List.drop_succ_cons, List.drop_zero, Nat.reduceAdd]
  repeat (go_big_quiet_step (fail))
  refine wpQuiet_nil ?_
  refine far.farO_enter e1' e2' 11 rfl rfl 23 #[layV ⟨h, z, b, r, rd, wr, s, p, q, t⟩ (.slice a' n' c')] (by kernel_rfl) (by kernel_rfl) ?_
  refine (HP23.out _ a' n' c').mono ?_
  rintro e v12 ⟨rfl, k12⟩
  have Y12 := Y11.then k12
  refine ⟨_, rfl, (HpK.out _).2 Y12, ?_⟩
  simp only [Act.put, List.setIfInBounds_toArray, List.set_cons_succ, List.set_cons_zero, Nat.reduceAdd]
  refine far.farO_stretch pK 1 0 15 e1' e2' e3' (by kernel_rfl) (by kernel_rfl) (fun κ w' hk1 hk2 hC => hC) ?_
  simp only [List.take_succ_cons, List.take_zero, List.drop_succ_cons, List.drop_zero, Nat.reduceAdd]
  repeat (go_big_quiet_step (fail))
  refine wpQuiet_nil ?_
  refine far.farO_enter e1' e2' 12 rfl rfl 24 #[cfgV ⟨h, z, b, r, rd, wr, s, p, q, t⟩ (.slice a len c)] (by kernel_rfl) (by kernel_rfl) ?_
  refine (HD24.out _).mono ?_
  rintro e v13 ⟨rfl, k13⟩
  have Y13 := Y12.then k13
  refine ⟨_, rfl, (HpK.out _).2 Y13, ?_⟩
  simp only [Act.put, List.setIfInBounds_toArray, List.set_cons_succ, List.set_cons_zero, Nat.reduceAdd]
  refine far.farO_stretch pK 4 0 15 e1' e2' e3' (by kernel_rfl) (by kernel_rfl) (fun κ w' hk1 hk2 hC => hC) ?_
  simp only [List.take_succ_cons, List.take_zero, List.drop_succ_cons, List.drop_zero, Nat.reduceAdd]
  repeat (go_big_quiet_step (fail))
  refine wpQuiet_nil ?_
  refine far.farO_enter e1' e2' 13 rfl rfl 25 #[layV ⟨h, z, b, r, rd, wr, s, p, q, t⟩ (.slice a' n' c')] (by kernel_rfl) (by kernel_rfl) ?_
  refine (HP25.out _ a' n' c').mono ?_
  rintro e v14 ⟨rfl, k14⟩
  have Y14 := Y13.then k14
  refine ⟨_, rfl, (HpK.out _).2 Y14, ?_⟩
  simp only [Act.put, List.setIfInBounds_toArray, List.set_cons_succ, List.set_cons_zero, Nat.reduceAdd]
  refine far.farO_stretch pK 1 0 15 e1' e2' e3' (by kernel_rfl) (by kernel_rfl) (fun κ w' hk1 hk2 hC => hC) ?_
  simp only [List.take_succ_cons, List.take_zero, List.drop_succ_cons, List.drop_zero, Nat.reduceAdd]
  repeat (go_big_quiet_step (fail))
  refine wpQuiet_nil ?_
  refine far.farO_enter e1' e2' 14 rfl rfl 26 #[cfgV ⟨h, z, b, r, rd, wr, s, p, q, t⟩ (.slice a len c)] (by kernel_rfl) (by kernel_rfl) ?_
  refine (HD26.out _).mono ?_
  rintro e v15 ⟨rfl, k15⟩
  have Y15 := Y14.then k15
  refine ⟨_, rfl, (HpK.out _).2 Y15, ?_⟩
  simp only [Act.put, List.setIfInBounds_toArray, List.set_cons_succ, List.set_cons_zero, Nat.reduceAdd]
  refine far.farO_stretch pK 2 0 15 e1' e2' e3' (by kernel_rfl) (by kernel_rfl) (fun κ w' hk1 hk2 hC => hC) ?_
  simp only [List.take_succ_cons, List.take_zero, List.drop_succ_cons, List.drop_zero, Nat.reduceAdd]
  repeat (go_big_quiet_step (fail))
  refine wpQuiet_nil ?_
  refine far.farO_nil ?_
  have KY : Hid (Chg no w v15) := KX.out.then Y15
  have HT2 : Hid (Tb gc gl h z b r rd wr s p q t (.slice a len c) (.slice a' n' c') v15) := HT.out.later Y15
  clear HT
  have HT : Hid (Tb gc gl h z b r rd wr s p q t (.slice a len c) (.slice a' n' c') v15) := HT2.out
  clear HT2
  clear HpK Y0 x0 z0 x1 z1 x2 z2 x3 z3 x4 z4 x5 z5 x6 z6 x7 z7 x8 z8 x9 z9 x10 z10 iK KX Y1 k1 Y2 k2 Y3 k3 Y4 k4 Y5 k5 Y6 k6 Y7 k7 Y8 k8 Y9 k9 Y10 k10 Y11 k11 Y12 k12 Y13 k13 Y14 k14 Y15 k15 HP12 HD13 HP14 HD15 HP16 HD17 HP18 HD19 HP20 HP21 HD22 HP23 HD24 HP25 HD26
  clear e1' e2' e3' LP pK
  by_cases hi : 1125899906842624 < i
  · go_wp2_with fail
    refine (HFi.out _).mono ?_
    rintro e w10 ⟨rfl, k10⟩
    go_wp2
    go_ret
    exact ⟨rfl, (KY.out.then k10).below⟩
  · have hj : 1125899906842624 < j := by omega
    go_wp2_with fail
    refine (HFi.out _).mono ?_
    rintro e w10 ⟨rfl, k10⟩
    go_wp2
    go_ret
    exact ⟨rfl, (KY.out.then k10).below⟩

set_option maxRecDepth 100000 in
set_option maxHeartbeats 16000000 in
theorem much (V : Ways) (w : World) (K : Cf) (hK : okC K) (a : Option Addr) (len c : Nat) (A : Nat → Option Addr) (C : Nat → Nat) (Z : Nat → List Int) (R : Rws w a len A C Z) (hlen : len ≤ maxLen) (hM : mayP (intC K) len Z) (i j : Int) (hi : i ≤ 1125899906842624) (hj : j ≤ 1125899906842624) (hj2 : 1048576 < j) :
    Calls Try.prog 3 #[cfgV K (.slice a len c), .int .i64 i, .int .i64 j] w fun e w' => e = .returned (.bool true) ∧ Below w.heap.size w w' := by
  have HF : Hid (∀ W, Chg no w W → Calls Try.prog 8 #[cfgV K (.slice a len c)] W (FewRes len Z W)) := fun W k => few_any W (intC K) a len c A C Z hlen (Rws.chg R k)
  have HO : Hid (∀ W, Chg no w W → Calls Try.prog 9 #[cfgV K (.slice a len c)] W fun e w' => ∃ a' n' c', e = .returned (.tuple #[layV K (.slice a' n' c'), .int .i64 0]) ∧ Chg no W w') := fun W k => by
    have := V.of1 W (intC K) a len c A C Z (Rws.chg R k) hlen hM
    rw [natC_intC] at this
    exact this
  have HP : Hid (∀ W, Chg no w W → Calls Try.prog 10 #[cfgV K (.slice a len c)] W fun e w' => e = .returned (.bool true) ∧ Chg no W w') := fun W k => V.may W (intC K) a len c A C Z (Rws.chg R k) hlen true (by simp [hM])
  have HD : Hid (∀ W, Chg no w W → Calls Try.prog 11 #[cfgV K (.slice a len c)] W fun e w' => e = .returned (.bool true) ∧ Chg no W w') := fun W k => rmayI W (intC K) a len c A C Z (Rws.chg R k) true (by simp [hM])
  have HFi : Hid (∀ W, Calls Try.prog 7 #[] W fun e w' => e = .returned (.bool true) ∧ Chg no W w') := fun W => first_any V W
  have HP12 : Hid (∀ W a' n' c', Calls Try.prog 12 #[layV K (.slice a' n' c')] W fun e w' => e = .returned (.int .i64 ((payN K : Nat) : Int)) ∧ Chg no W w') := fun W a' n' c' => V.pay W K hK a' n' c'
  have HD13 : Hid (∀ W, Calls Try.prog 13 #[cfgV K (.slice a len c)] W fun e w' => e = .returned (.int .i64 ((payN K : Nat) : Int)) ∧ Chg no W w') := fun W => rpay_any W K hK a len c
  have HP14 : Hid (∀ W a' n' c', Calls Try.prog 14 #[layV K (.slice a' n' c')] W fun e w' => e = .returned (.int .i64 ((12 + payN K : Nat) : Int)) ∧ Chg no W w') := fun W a' n' c' => V.cell W K hK a' n' c'
  have HD15 : Hid (∀ W, Calls Try.prog 15 #[cfgV K (.slice a len c)] W fun e w' => e = .returned (.int .i64 ((12 + payN K : Nat) : Int)) ∧ Chg no W w') := fun W => rcell_any W K hK a len c
  have HP16 : Hid (∀ W a' n' c', Calls Try.prog 16 #[layV K (.slice a' n' c')] W fun e w' => e = .returned (.int .i64 ((slotsN K : Nat) : Int)) ∧ Chg no W w') := fun W a' n' c' => V.slots W K hK a' n' c'
  have HD17 : Hid (∀ W, Calls Try.prog 17 #[cfgV K (.slice a len c)] W fun e w' => e = .returned (.int .i64 ((slotsN K : Nat) : Int)) ∧ Chg no W w') := fun W => rslots_any W K hK a len c
  have HP18 : Hid (∀ W a' n' c', Calls Try.prog 18 #[layV K (.slice a' n' c'), .int .i64 i] W fun e w' => e = .returned (.int .i64 (batchI K i)) ∧ Chg no W w') := fun W a' n' c' => V.batch W K hK a' n' c' i
  have HD19 : Hid (∀ W, Calls Try.prog 19 #[cfgV K (.slice a len c), .int .i64 i] W fun e w' => e = .returned (.int .i64 (batchI K i)) ∧ Chg no W w') := fun W => rbatch_any W K a len c i
  have HP20 : Hid (∀ W a' n' c', Calls Try.prog 20 #[layV K (.slice a' n' c')] W fun e w' => e = .returned (.int .i64 12) ∧ Chg no W w') := fun W a' n' c' => V.logl W K hK a' n' c'
  have HP21 : Hid (∀ W a' n' c', Calls Try.prog 21 #[layV K (.slice a' n' c')] W fun e w' => e = .returned (.int .i64 ((deltaN K : Nat) : Int)) ∧ Chg no W w') := fun W a' n' c' => V.deltal W K hK a' n' c'
  have HD22 : Hid (∀ W, Calls Try.prog 22 #[cfgV K (.slice a len c)] W fun e w' => e = .returned (.int .i64 ((deltaN K : Nat) : Int)) ∧ Chg no W w') := fun W => rdelta_any W K hK a len c
  have HP23 : Hid (∀ W a' n' c', Calls Try.prog 23 #[layV K (.slice a' n' c')] W fun e w' => e = .returned (.int .i64 ((fullN K : Nat) : Int)) ∧ Chg no W w') := fun W a' n' c' => V.fulll W K hK a' n' c'
  have HD24 : Hid (∀ W, Calls Try.prog 24 #[cfgV K (.slice a len c)] W fun e w' => e = .returned (.int .i64 ((fullN K : Nat) : Int)) ∧ Chg no W w') := fun W => rfull_any W K hK a len c
  have HP25 : Hid (∀ W a' n' c', Calls Try.prog 25 #[layV K (.slice a' n' c')] W fun e w' => e = .returned (.int .i64 ((clogN K : Nat) : Int)) ∧ Chg no W w') := fun W a' n' c' => V.clogl W K hK a' n' c'
  have HD26 : Hid (∀ W, Calls Try.prog 26 #[cfgV K (.slice a len c)] W fun e w' => e = .returned (.int .i64 ((clogN K : Nat) : Int)) ∧ Chg no W w') := fun W => rclog_any W K hK a len c
  have HP28 : Hid (∀ W a' n' c', Calls Try.prog 28 #[layV K (.slice a' n' c'), .int .i64 i] W fun e w' => e = .returned (areaV (logA K i)) ∧ Chg no W w') := fun W a' n' c' => V.log W K hK a' n' c' i (by omega)
  have HD29 : Hid (∀ W, Calls Try.prog 29 #[cfgV K (.slice a len c), .int .i64 i] W fun e w' => e = .returned (areaV (logA K i)) ∧ Chg no W w') := fun W => rlogA W K hK a len c i
  have HAlog : Hid (∀ W, Calls Try.prog 27 #[areaV (logA K i)] W fun e w' => e = .returned (areaV (logA K i)) ∧ Chg no W w') := fun W => area_any W _ _
  have HP30 : Hid (∀ W a' n' c', Calls Try.prog 30 #[layV K (.slice a' n' c'), .int .i64 i] W fun e w' => e = .returned (areaV (clogA K i)) ∧ Chg no W w') := fun W a' n' c' => V.clog W K hK a' n' c' i (by omega)
  have HD31 : Hid (∀ W, Calls Try.prog 31 #[cfgV K (.slice a len c), .int .i64 i] W fun e w' => e = .returned (areaV (clogA K i)) ∧ Chg no W w') := fun W => rclogA W K hK a len c i
  have HAclog : Hid (∀ W, Calls Try.prog 27 #[areaV (clogA K i)] W fun e w' => e = .returned (areaV (clogA K i)) ∧ Chg no W w') := fun W => area_any W _ _
  have HP32 : Hid (∀ W a' n' c', Calls Try.prog 32 #[layV K (.slice a' n' c'), .int .i64 i] W fun e w' => e = .returned (areaV (deltaA K i)) ∧ Chg no W w') := fun W a' n' c' => V.delta W K hK a' n' c' i (by omega)
  have HD33 : Hid (∀ W, Calls Try.prog 33 #[cfgV K (.slice a len c), .int .i64 i] W fun e w' => e = .returned (areaV (deltaA K i)) ∧ Chg no W w') := fun W => rdeltaA W K hK a len c i (by omega)
  have HAdelta : Hid (∀ W, Calls Try.prog 27 #[areaV (deltaA K i)] W fun e w' => e = .returned (areaV (deltaA K i)) ∧ Chg no W w') := fun W => area_any W _ _
  have HP34 : Hid (∀ W a' n' c', Calls Try.prog 34 #[layV K (.slice a' n' c'), .int .i64 i] W fun e w' => e = .returned (areaV (fullA K i)) ∧ Chg no W w') := fun W a' n' c' => V.full W K hK a' n' c' i (by omega)
  have HD35 : Hid (∀ W, Calls Try.prog 35 #[cfgV K (.slice a len c), .int .i64 i] W fun e w' => e = .returned (areaV (fullA K i)) ∧ Chg no W w') := fun W => rfullA W K hK a len c i (by omega)
  have HAfull : Hid (∀ W, Calls Try.prog 27 #[areaV (fullA K i)] W fun e w' => e = .returned (areaV (fullA K i)) ∧ Chg no W w') := fun W => area_any W _ _
  have HP36 : Hid (∀ W a' n' c', Calls Try.prog 36 #[layV K (.slice a' n' c'), .int .i64 i] W fun e w' => e = .returned (areaV (checkA K i)) ∧ Chg no W w') := fun W a' n' c' => V.check W K hK a' n' c' i (by omega)
  have HD37 : Hid (∀ W, Calls Try.prog 37 #[cfgV K (.slice a len c), .int .i64 i] W fun e w' => e = .returned (areaV (checkA K i)) ∧ Chg no W w') := fun W => rcheckA W K hK a len c i (by omega)
  have HAcheck : Hid (∀ W, Calls Try.prog 27 #[areaV (checkA K i)] W fun e w' => e = .returned (areaV (checkA K i)) ∧ Chg no W w') := fun W => area_any W _ _
  have HP38 : Hid (∀ W a' n' c', Calls Try.prog 38 #[layV K (.slice a' n' c'), .int .i64 i, .int .i64 j] W fun e w' => e = .returned (.int .i64 (bucketA K i j)) ∧ Chg no W w') := fun W a' n' c' => V.bucket W K hK a' n' c' i j
  have HD39 : Hid (∀ W, Calls Try.prog 39 #[cfgV K (.slice a len c), .int .i64 i, .int .i64 j] W fun e w' => e = .returned (.int .i64 (bucketA K i j)) ∧ Chg no W w') := fun W => rbucketA W K hK a len c i j
  have HP40 : Hid (∀ W a' n' c', Calls Try.prog 40 #[layV K (.slice a' n' c')] W fun e w' => e = .returned (.int .i64 (st5 K : Int)) ∧ Chg no W w') := fun W a' n' c' => V.total W K hK a' n' c'
  have HD41 : Hid (∀ W, Calls Try.prog 41 #[cfgV K (.slice a len c)] W fun e w' => e = .returned (.int .i64 (st5 K : Int)) ∧ Chg no W w') := fun W => rtotalA W K hK a len c
  have HP42 : Hid (∀ W a' n' c', Calls Try.prog 42 #[layV K (.slice a' n' c'), .int .i64 i] W fun e w' => e = .returned (.int .i64 (tickA K i)) ∧ Chg no W w') := fun W a' n' c' => V.tick W K hK a' n' c' i (by omega)
  have HD43 : Hid (∀ W, Calls Try.prog 43 #[cfgV K (.slice a len c), .int .i64 i] W fun e w' => e = .returned (.int .i64 (tickA K i)) ∧ Chg no W w') := fun W => rtickA W K hK a len c i (by omega)
  have HP46 : Hid (∀ W a' n' c', Calls Try.prog 46 #[layV K (.slice a' n' c')] W fun e w' => e = .returned (.int .i64 ((5 + cFull K : Nat) : Int)) ∧ Chg no W w') := fun W a' n' c' => V.make W K hK a' n' c'
  have HD47 : Hid (∀ W, Calls Try.prog 47 #[cfgV K (.slice a len c)] W fun e w' => e = .returned (.int .i64 ((5 + cFull K : Nat) : Int)) ∧ Chg no W w') := fun W => rmakeA W K hK a len c
  obtain ⟨P, hP⟩ : ∃ x, payN K = x := ⟨_, rfl⟩
  obtain ⟨S, hS⟩ : ∃ x, slotsN K = x := ⟨_, rfl⟩
  obtain ⟨LD, hLD⟩ : ∃ x, deltaN K = x := ⟨_, rfl⟩
  obtain ⟨LF, hLF⟩ : ∃ x, fullN K = x := ⟨_, rfl⟩
  obtain ⟨LC, hLC⟩ : ∃ x, clogN K = x := ⟨_, rfl⟩
  obtain ⟨BI, hBI⟩ : ∃ x, batchI K i = x := ⟨_, rfl⟩
  obtain ⟨T5, hT5⟩ : ∃ x, st5 K = x := ⟨_, rfl⟩
  obtain ⟨CF, hCF⟩ : ∃ x, 5 + cFull K = x := ⟨_, rfl⟩
  obtain ⟨BU, hBU⟩ : ∃ x, bucketA K i j = x := ⟨_, rfl⟩
  obtain ⟨TI, hTI⟩ : ∃ x, tickA K i = x := ⟨_, rfl⟩
  obtain ⟨logu, hlogu⟩ : ∃ x, (logA K i).1 = x := ⟨_, rfl⟩
  obtain ⟨clogu, hclogu⟩ : ∃ x, (clogA K i).1 = x := ⟨_, rfl⟩
  obtain ⟨deltau, hdeltau⟩ : ∃ x, (deltaA K i).1 = x := ⟨_, rfl⟩
  obtain ⟨fullu, hfullu⟩ : ∃ x, (fullA K i).1 = x := ⟨_, rfl⟩
  obtain ⟨checku, hchecku⟩ : ∃ x, (checkA K i).1 = x := ⟨_, rfl⟩
  obtain ⟨logv, hlogv⟩ : ∃ x, (logA K i).2 = x := ⟨_, rfl⟩
  obtain ⟨clogv, hclogv⟩ : ∃ x, (clogA K i).2 = x := ⟨_, rfl⟩
  obtain ⟨deltav, hdeltav⟩ : ∃ x, (deltaA K i).2 = x := ⟨_, rfl⟩
  obtain ⟨fullv, hfullv⟩ : ∃ x, (fullA K i).2 = x := ⟨_, rfl⟩
  obtain ⟨checkv, hcheckv⟩ : ∃ x, (checkA K i).2 = x := ⟨_, rfl⟩
  simp only [areaV, hP, hS, hLD, hLF, hLC, hBI, hT5, hCF, hBU, hTI, hlogu, hclogu, hdeltau, hfullu, hchecku, hlogv, hclogv, hdeltav, hfullv, hcheckv] at HP12 HD13 HP14 HD15 HP16 HD17 HP18 HD19 HP20 HP21 HD22 HP23 HD24 HP25 HD26 HP28 HD29 HAlog HP30 HD31 HAclog HP32 HD33 HAdelta HP34 HD35 HAfull HP36 HD37 HAcheck HP38 HD39 HP40 HD41 HP42 HD43 HP46 HD47
  have hneq := neq37s
  obtain ⟨h, z, b, r, rd, wr, s, p, q, t⟩ := K
  try simp only at *
  clear hK R hlen hM hP hS hLD hLF hLC hBI hT5 hCF hBU hTI hlogu hclogu hdeltau hfullu hchecku hlogv hclogv hdeltav hfullv hcheckv
  go_enter Try.func3, Try.ntmps3
  go_wp2_with fail
  obtain ⟨w1, hw1⟩ : ∃ w1, w.alloc (cfgO h z b r rd wr s p q t (.slice a len c)) = w1 := ⟨_, rfl⟩
  have hb : w1.heap[w.heap.size]? = some (cfgO h z b r rd wr s p q t (.slice a len c)) := by rw [← hw1]; exact heap_alloc_new w _
  have K1 : Hid (Chg no w w1) := by rw [← hw1]; exact (Chg.refl no w).alloc _
  rw [hw1]
  obtain ⟨gc, hg⟩ : ∃ g, w.heap.size = g := ⟨_, rfl⟩
  rw [hg] at hb ⊢
  have HB : Hid (∀ W, Chg no w1 W → W.heap[gc]? = some (cfgO h z b r rd wr s p q t (.slice a len c))) := fun W k => k.heap hb id
  have HG : Hid (w.heap.size = gc) := hg
  clear hw1 hg hb
  refine (HFi.out _).mono ?_
  rintro e w2 ⟨rfl, k2⟩
  have K2 : Hid (Chg no w1 w2) := k2
  obtain ⟨c0, c1, c2, c3, c4, c5, c6, c7, c8, c9, c10⟩ := cfg_cells (HB.out w2 k2)
  have HF2 := HF.out w2 (K1.out.then k2)
  clear k2 HF
  go_wp2_with fail
  refine HF2.mono ?_
  rintro e w3 ⟨B, rfl, k3, hB⟩
  have K3 : Hid (Chg no w1 w3) := K2.out.then k3
  clear HF2 k3 hB c0 c1 c2 c3 c4 c5 c6 c7 c8 c9 c10 K2
  cases B
  · go_wp2_with fail
    refine (HFi.out _).mono ?_
    rintro e w4 ⟨rfl, k4⟩
    go_wp2
    go_ret
    exact ⟨rfl, ((K1.out.then K3.out).then k4).below⟩
  obtain ⟨c0, c1, c2, c3, c4, c5, c6, c7, c8, c9, c10⟩ := cfg_cells (HB.out w3 K3.out)
  have HO3 := HO.out w3 (K1.out.then K3.out)
  go_wp2_with fail
  refine HO3.mono ?_
  rintro e w4 ⟨a', n', c', rfl, k4⟩
  have K4 : Hid (Chg no w1 w4) := K3.out.then k4
  clear HO3 k4 c0 c1 c2 c3 c4 c5 c6 c7 c8 c9 c10 K3 HO
  go_wp2_with fail
  obtain ⟨w5, hw5⟩ : ∃ w5, w4.alloc (layO h z b r rd wr s p q t (.slice a' n' c')) = w5 := ⟨_, rfl⟩
  have K5 : Hid (Chg no w1 w5) := by rw [← hw5]; exact K4.out.alloc _
  have hl : w5.heap[w4.heap.size]? = some (layO h z b r rd wr s p q t (.slice a' n' c')) := by rw [← hw5]; exact heap_alloc_new w4 _
  rw [hw5]
  obtain ⟨gl, hgl⟩ : ∃ g, w4.heap.size = g := ⟨_, rfl⟩
  rw [hgl] at hl ⊢
  have HT : Hid (Tb gc gl h z b r rd wr s p q t (.slice a len c) (.slice a' n' c') w5) := ⟨HB.out w5 K5.out, hl⟩
  have KW : Hid (Chg no w w5) := K1.out.then K5.out
  clear hw5 K4 hl hgl HB K5 K1
  obtain ⟨pK, hpK⟩ : ∃ pK : World → Prop, ∀ w', pK w' ↔ Chg no w5 w' := ⟨_, fun _ => Iff.rfl⟩
  obtain ⟨x0, x1, x2, x3, x4, x5, x6, x7, x8, x9, x10, iK⟩ := cfg_facts hpK HT.out.box
  obtain ⟨z0, z1, z2, z3, z4, z5, z6, z7, z8, z9, z10⟩ := lay_facts hpK HT.out.lay
  have HpK : Hid (∀ w', pK w' ↔ Chg no w5 w') := hpK
  have Y0 : Chg no w5 w5.drew := (Chg.refl no w5).drew
  clear hpK
  refine far.region_farM (fun κ w' => pK w') [1, 3, 9] (by kernel_rfl) (by kernel_rfl) ((HpK.out _).2 Y0) ?_
  intro LP e1' e2' e3'
  refine far.farO_stretch pK 1 0 3 e1' e2' e3' (by kernel_rfl) (by kernel_rfl) (fun κ w' hk1 hk2 hC => hC) ?_
  simp only [List.take_succ_cons, List.take_zero, List.drop_succ_cons, List.drop_zero, Nat.reduceAdd]
  repeat (go_big_quiet_step (fail))
  refine wpQuiet_nil ?_
  refine far.farO_enter e1' e2' 0 rfl rfl 10 #[cfgV ⟨h, z, b, r, rd, wr, s, p, q, t⟩ (.slice a len c)] (by kernel_rfl) (by kernel_rfl) ?_
  refine (HP.out _ (KW.out.then Y0)).mono ?_
  rintro e w6 ⟨rfl, k1⟩
  have Y1 := Y0.then k1
  refine ⟨_, rfl, (HpK.out _).2 Y1, ?_⟩
  simp only [Act.put, List.setIfInBounds_toArray, List.set_cons_succ, List.set_cons_zero, Nat.reduceAdd]
  refine far.farO_stretch pK 1 0 3 e1' e2' e3' (by kernel_rfl) (by kernel_rfl) (fun κ w' hk1 hk2 hC => hC) ?_
  simp only [List.take_succ_cons, List.take_zero, List.drop_succ_cons, List.drop_zero, Nat.reduceAdd]
  repeat (go_big_quiet_step (fail))
  refine wpQuiet_nil ?_
  refine far.farO_enter e1' e2' 1 rfl rfl 11 #[cfgV ⟨h, z, b, r, rd, wr, s, p, q, t⟩ (.slice a len c)] (by kernel_rfl) (by kernel_rfl) ?_
  refine (HD.out _ (KW.out.then Y1)).mono ?_
  rintro e w7 ⟨rfl, k2⟩
  have Y2 := Y1.then k2
  refine ⟨_, rfl, (HpK.out _).2 Y2, ?_⟩
  simp only [Act.put, List.setIfInBounds_toArray, List.set_cons_succ, List.set_cons_zero, Nat.reduceAdd]
  refine far.farO_stretch pK 5 0 3 e1' e2' e3' (by kernel_rfl) (by kernel_rfl) (fun κ w' hk1 hk2 hC => hC) ?_
  simp only [List.take_succ_cons, List.take_zero, List.drop_succ_cons, List.drop_zero, Nat.reduceAdd]
  repeat (go_big_quiet_step (fail))
  refine wpQuiet_nil ?_
  refine far.farO_enter e1' e2' 2 rfl rfl 10 #[cfgV ⟨h, z, b, r, rd, wr, s, p, q, t⟩ (.slice a len c)] (by kernel_rfl) (by kernel_rfl) ?_
  refine (HP.out _ (KW.out.then Y2)).mono ?_
  rintro e w8 ⟨rfl, k3⟩
  have Y3 := Y2.then k3
  refine ⟨_, rfl, (HpK.out _).2 Y3, ?_⟩
  simp only [Act.put, List.setIfInBounds_toArray, List.set_cons_succ, List.set_cons_zero, Nat.reduceAdd]
  refine far.farO_stretch pK 10 0 3 e1' e2' e3' (by kernel_rfl) (by kernel_rfl) (fun κ w' hk1 hk2 hC => hC) ?_
  simp only [List.take_succ_cons, List.take_zero, List.drop_succ_cons, List.drop_zero, Nat.reduceAdd]
  repeat (go_big_quiet_step (fail))
  refine wpQuiet_nil ?_
  refine far.farO_nil ?_
  have HT2 : Hid (Tb gc gl h z b r rd wr s p q t (.slice a len c) (.slice a' n' c') w8) := HT.out.later Y3
  clear HT
  have HT : Hid (Tb gc gl h z b r rd wr s p q t (.slice a len c) (.slice a' n' c') w8) := HT2.out
  clear HT2
  have KX : Hid (Chg no w w8) := KW.out.then Y3
  clear HpK Y0 x0 z0 x1 z1 x2 z2 x3 z3 x4 z4 x5 z5 x6 z6 x7 z7 x8 z8 x9 z9 x10 z10 iK KW Y1 Y2 Y3 k1 k2 k3 HP HD
  clear e1' e2' e3' LP pK
  go_wp2_with fail
  obtain ⟨pK, hpK⟩ : ∃ pK : World → Prop, ∀ w', pK w' ↔ Chg no w8 w' := ⟨_, fun _ => Iff.rfl⟩
  obtain ⟨x0, x1, x2, x3, x4, x5, x6, x7, x8, x9, x10, iK⟩ := cfg_facts hpK HT.out.box
  obtain ⟨z0, z1, z2, z3, z4, z5, z6, z7, z8, z9, z10⟩ := lay_facts hpK HT.out.lay
  have HpK : Hid (∀ w', pK w' ↔ Chg no w8 w') := hpK
  have Y0 : Chg no w8 w8.drew := (Chg.refl no w8).drew
  clear hpK
  refine far.region_farM (fun κ w' => pK w') [1, 3, 7, 9, 14, 16, 22, 25, 30, 35, 37, 42, 44, 49, 51] (by kernel_rfl) (by kernel_rfl) ((HpK.out _).2 Y0) ?_
  intro LP e1' e2' e3'
  refine far.farO_stretch pK 1 0 15 e1' e2' e3' (by kernel_rfl) (by kernel_rfl) (fun κ w' hk1 hk2 hC => hC) ?_
  simp only [List.take_succ_cons, List.take_zero, List.drop_succ_cons, List.drop_zero, Nat.reduceAdd]
  repeat (go_big_quiet_step (fail))
  refine wpQuiet_nil ?_
  refine far.farO_enter e1' e2' 0 rfl rfl 12 #[layV ⟨h, z, b, r, rd, wr, s, p, q, t⟩ (.slice a' n' c')] (by kernel_rfl) (by kernel_rfl) ?_
  refine (HP12.out _ a' n' c').mono ?_
  rintro e v1 ⟨rfl, k1⟩
  have Y1 := Y0.then k1
  refine ⟨_, rfl, (HpK.out _).2 Y1, ?_⟩
  simp only [Act.put, List.setIfInBounds_toArray, List.set_cons_succ, List.set_cons_zero, Nat.reduceAdd]
  refine far.farO_stretch pK 1 0 15 e1' e2' e3' (by kernel_rfl) (by kernel_rfl) (fun κ w' hk1 hk2 hC => hC) ?_
  simp only [List.take_succ_cons, List.take_zero, List.drop_succ_cons, List.drop_zero, Nat.reduceAdd]
  repeat (go_big_quiet_step (fail))
  refine wpQuiet_nil ?_
  refine far.farO_enter e1' e2' 1 rfl rfl 13 #[cfgV ⟨h, z, b, r, rd, wr, s, p, q, t⟩ (.slice a len c)] (by kernel_rfl) (by kernel_rfl) ?_
  refine (HD13.out _).mono ?_
  rintro e v2 ⟨rfl, k2⟩
  have Y2 := Y1.then k2
  refine ⟨_, rfl, (HpK.out _).2 Y2, ?_⟩
  simp only [Act.put, List.setIfInBounds_toArray, List.set_cons_succ, List.set_cons_zero, Nat.reduceAdd]
  refine far.farO_stretch pK 3 0 15 e1' e2' e3' (by kernel_rfl) (by kernel_rfl) (fun κ w' hk1 hk2 hC => hC) ?_
  simp only [List.take_succ_cons, List.take_zero, List.drop_succ_cons, List.drop_zero, Nat.reduceAdd]
  repeat (go_big_quiet_step (fail))
  refine wpQuiet_nil ?_
  refine far.farO_enter e1' e2' 2 rfl rfl 14 #[layV ⟨h, z, b, r, rd, wr, s, p, q, t⟩ (.slice a' n' c')] (by kernel_rfl) (by kernel_rfl) ?_
  refine (HP14.out _ a' n' c').mono ?_
  rintro e v3 ⟨rfl, k3⟩
  have Y3 := Y2.then k3
  refine ⟨_, rfl, (HpK.out _).2 Y3, ?_⟩
  simp only [Act.put, List.setIfInBounds_toArray, List.set_cons_succ, List.set_cons_zero, Nat.reduceAdd]
  refine far.farO_stretch pK 1 0 15 e1' e2' e3' (by kernel_rfl) (by kernel_rfl) (fun κ w' hk1 hk2 hC => hC) ?_
  simp only [List.take_succ_cons, List.take_zero, List.drop_succ_cons, List.drop_zero, Nat.reduceAdd]
  repeat (go_big_quiet_step (fail))
  refine wpQuiet_nil ?_
  refine far.farO_enter e1' e2' 3 rfl rfl 15 #[cfgV ⟨h, z, b, r, rd, wr, s, p, q, t⟩ (.slice a len c)] (by kernel_rfl) (by kernel_rfl) ?_
  refine (HD15.out _).mono ?_
  rintro e v4 ⟨rfl, k4⟩
  have Y4 := Y3.then k4
  refine ⟨_, rfl, (HpK.out _).2 Y4, ?_⟩
  simp only [Act.put, List.setIfInBounds_toArray, List.set_cons_succ, List.set_cons_zero, Nat.reduceAdd]
  refine far.farO_stretch pK 4 0 15 e1' e2' e3' (by kernel_rfl) (by kernel_rfl) (fun κ w' hk1 hk2 hC => hC) ?_
  simp only [List.take_succ_cons, List.take_zero, List.drop_succ_cons, List.drop_zero, Nat.reduceAdd]
  repeat (go_big_quiet_step (fail))
  refine wpQuiet_nil ?_
  refine far.farO_enter e1' e2' 4 rfl rfl 16 #[layV ⟨h, z, b, r, rd, wr, s, p, q, t⟩ (.slice a' n' c')] (by kernel_rfl) (by kernel_rfl) ?_
  refine (HP16.out _ a' n' c').mono ?_
  rintro e v5 ⟨rfl, k5⟩
  have Y5 := Y4.then k5
  refine ⟨_, rfl, (HpK.out _).2 Y5, ?_⟩
  simp only [Act.put, List.setIfInBounds_toArray, List.set_cons_succ, List.set_cons_zero, Nat.reduceAdd]
  refine far.farO_stretch pK 1 0 15 e1' e2' e3' (by kernel_rfl) (by kernel_rfl) (fun κ w' hk1 hk2 hC => hC) ?_
  simp only [List.take_succ_cons, List.take_zero, List.drop_succ_cons, List.drop_zero, Nat.reduceAdd]
  repeat (go_big_quiet_step (fail))
  refine wpQuiet_nil ?_
  refine far.farO_enter e1' e2' 5 rfl rfl 17 #[cfgV ⟨h, z, b, r, rd, wr, s, p, q, t⟩ (.slice a len c)] (by kernel_rfl) (by kernel_rfl) ?_
  refine (HD17.out _).mono ?_
  rintro e v6 ⟨rfl, k6⟩
  have Y6 := Y5.then k6
  refine ⟨_, rfl, (HpK.out _).2 Y6, ?_⟩
  simp only [Act.put, List.setIfInBounds_toArray, List.set_cons_succ, List.set_cons_zero, Nat.reduceAdd]
  refine far.farO_stretch pK 5 0 15 e1' e2' e3' (by kernel_rfl) (by kernel_rfl) (fun κ w' hk1 hk2 hC => hC) ?_
  simp only [List.take_succ_cons, List.take_zero, List.drop_succ_cons, List.drop_zero, Nat.reduceAdd]
  repeat (go_big_quiet_step (fail))
  refine wpQuiet_nil ?_
  refine far.farO_enter e1' e2' 6 rfl rfl 18 #[layV ⟨h, z, b, r, rd, wr, s, p, q, t⟩ (.slice a' n' c'), .int .i64 i] (by kernel_rfl) (by kernel_rfl) ?_
  refine (HP18.out _ a' n' c').mono ?_
  rintro e v7 ⟨rfl, k7⟩
  have Y7 := Y6.then k7
  refine ⟨_, rfl, (HpK.out _).2 Y7, ?_⟩
  simp only [Act.put, List.setIfInBounds_toArray, List.set_cons_succ, List.set_cons_zero, Nat.reduceAdd]
  refine far.farO_stretch pK 2 0 15 e1' e2' e3' (by kernel_rfl) (by kernel_rfl) (fun κ w' hk1 hk2 hC => hC) ?_
  simp only [List.take_succ_cons, List.take_zero, List.drop_succ_cons, List.drop_zero, Nat.reduceAdd]
  repeat (go_big_quiet_step (fail))
  refine wpQuiet_nil ?_
  refine far.farO_enter e1' e2' 7 rfl rfl 19 #[cfgV ⟨h, z, b, r, rd, wr, s, p, q, t⟩ (.slice a len c), .int .i64 i] (by kernel_rfl) (by kernel_rfl) ?_
  refine (HD19.out _).mono ?_
  rintro e v8 ⟨rfl, k8⟩
  have Y8 := Y7.then k8
  refine ⟨_, rfl, (HpK.out _).2 Y8, ?_⟩
  simp only [Act.put, List.setIfInBounds_toArray, List.set_cons_succ, List.set_cons_zero, Nat.reduceAdd]
  refine far.farO_stretch pK 4 0 15 e1' e2' e3' (by kernel_rfl) (by kernel_rfl) (fun κ w' hk1 hk2 hC => hC) ?_
  simp only [List.take_succ_cons, List.take_zero, List.drop_succ_cons, List.drop_zero, Nat.reduceAdd]
  repeat (go_big_quiet_step (fail))
  refine wpQuiet_nil ?_
  refine far.farO_enter e1' e2' 8 rfl rfl 20 #[layV ⟨h, z, b, r, rd, wr, s, p, q, t⟩ (.slice a' n' c')] (by kernel_rfl) (by kernel_rfl) ?_
  refine (HP20.out _ a' n' c').mono ?_
  rintro e v9 ⟨rfl, k9⟩
  have Y9 := Y8.then k9
  refine ⟨_, rfl, (HpK.out _).2 Y9, ?_⟩
  simp only [Act.put, List.setIfInBounds_toArray, List.set_cons_succ, List.set_cons_zero, Nat.reduceAdd]
  refine far.farO_stretch pK 4 0 15 e1' e2' e3' (by kernel_rfl) (by kernel_rfl) (fun κ w' hk1 hk2 hC => hC) ?_
  simp only [List.take_succ_cons, List.take_zero, List.drop_succ_cons, List.drop_zero, Nat.reduceAdd]
  repeat (go_big_quiet_step (fail))
  refine wpQuiet_nil ?_
  refine far.farO_enter e1' e2' 9 rfl rfl 21 #[layV ⟨h, z, b, r, rd, wr, s, p, q, t⟩ (.slice a' n' c')] (by kernel_rfl) (by kernel_rfl) ?_
  refine (HP21.out _ a' n' c').mono ?_
  rintro e v10 ⟨rfl, k10⟩
  have Y10 := Y9.then k10
  refine ⟨_, rfl, (HpK.out _).2 Y10, ?_⟩
  simp only [Act.put, List.setIfInBounds_toArray, List.set_cons_succ, List.set_cons_zero, Nat.reduceAdd]
  refine far.farO_stretch pK 1 0 15 e1' e2' e3' (by kernel_rfl) (by kernel_rfl) (fun κ w' hk1 hk2 hC => hC) ?_
  simp only [List.take_succ_cons, List.take_zero, List.drop_succ_cons, List.drop_zero, Nat.reduceAdd]
  repeat (go_big_quiet_step (fail))
  refine wpQuiet_nil ?_
  refine far.farO_enter e1' e2' 10 rfl rfl 22 #[cfgV ⟨h, z, b, r, rd, wr, s, p, q, t⟩ (.slice a len c)] (by kernel_rfl) (by kernel_rfl) ?_
  refine (HD22.out _).mono ?_
  rintro e v11 ⟨rfl, k11⟩
  have Y11 := Y10.then k11
  refine ⟨_, rfl, (HpK.out _).2 Y11, ?_⟩
  simp only [Act.put, List.setIfInBounds_toArray, List.set_cons_succ, List.set_cons_zero, Nat.reduceAdd]
  refine far.farO_stretch pK 4 0 15 e1' e2' e3' (by kernel_rfl) (by kernel_rfl) (fun κ w' hk1 hk2 hC => hC) ?_
  simp only [List.take_succ_cons, List.take_zero, List.drop_succ_cons, List.drop_zero, Nat.reduceAdd]
  repeat (go_big_quiet_step (fail))
  refine wpQuiet_nil ?_
  refine far.farO_enter e1' e2' 11 rfl rfl 23 #[layV ⟨h, z, b, r, rd, wr, s, p, q, t⟩ (.slice a' n' c')] (by kernel_rfl) (by kernel_rfl) ?_
  refine (HP23.out _ a' n' c').mono ?_
  rintro e v12 ⟨rfl, k12⟩
  have Y12 := Y11.then k12
  refine ⟨_, rfl, (HpK.out _).2 Y12, ?_⟩
  simp only [Act.put, List.setIfInBounds_toArray, List.set_cons_succ, List.set_cons_zero, Nat.reduceAdd]
  refine far.farO_stretch pK 1 0 15 e1' e2' e3' (by kernel_rfl) (by kernel_rfl) (fun κ w' hk1 hk2 hC => hC) ?_
  simp only [List.take_succ_cons, List.take_zero, List.drop_succ_cons, List.drop_zero, Nat.reduceAdd]
  repeat (go_big_quiet_step (fail))
  refine wpQuiet_nil ?_
  refine far.farO_enter e1' e2' 12 rfl rfl 24 #[cfgV ⟨h, z, b, r, rd, wr, s, p, q, t⟩ (.slice a len c)] (by kernel_rfl) (by kernel_rfl) ?_
  refine (HD24.out _).mono ?_
  rintro e v13 ⟨rfl, k13⟩
  have Y13 := Y12.then k13
  refine ⟨_, rfl, (HpK.out _).2 Y13, ?_⟩
  simp only [Act.put, List.setIfInBounds_toArray, List.set_cons_succ, List.set_cons_zero, Nat.reduceAdd]
  refine far.farO_stretch pK 4 0 15 e1' e2' e3' (by kernel_rfl) (by kernel_rfl) (fun κ w' hk1 hk2 hC => hC) ?_
  simp only [List.take_succ_cons, List.take_zero, List.drop_succ_cons, List.drop_zero, Nat.reduceAdd]
  repeat (go_big_quiet_step (fail))
  refine wpQuiet_nil ?_
  refine far.farO_enter e1' e2' 13 rfl rfl 25 #[layV ⟨h, z, b, r, rd, wr, s, p, q, t⟩ (.slice a' n' c')] (by kernel_rfl) (by kernel_rfl) ?_
  refine (HP25.out _ a' n' c').mono ?_
  rintro e v14 ⟨rfl, k14⟩
  have Y14 := Y13.then k14
  refine ⟨_, rfl, (HpK.out _).2 Y14, ?_⟩
  simp only [Act.put, List.setIfInBounds_toArray, List.set_cons_succ, List.set_cons_zero, Nat.reduceAdd]
  refine far.farO_stretch pK 1 0 15 e1' e2' e3' (by kernel_rfl) (by kernel_rfl) (fun κ w' hk1 hk2 hC => hC) ?_
  simp only [List.take_succ_cons, List.take_zero, List.drop_succ_cons, List.drop_zero, Nat.reduceAdd]
  repeat (go_big_quiet_step (fail))
  refine wpQuiet_nil ?_
  refine far.farO_enter e1' e2' 14 rfl rfl 26 #[cfgV ⟨h, z, b, r, rd, wr, s, p, q, t⟩ (.slice a len c)] (by kernel_rfl) (by kernel_rfl) ?_
  refine (HD26.out _).mono ?_
  rintro e v15 ⟨rfl, k15⟩
  have Y15 := Y14.then k15
  refine ⟨_, rfl, (HpK.out _).2 Y15, ?_⟩
  simp only [Act.put, List.setIfInBounds_toArray, List.set_cons_succ, List.set_cons_zero, Nat.reduceAdd]
  refine far.farO_stretch pK 2 0 15 e1' e2' e3' (by kernel_rfl) (by kernel_rfl) (fun κ w' hk1 hk2 hC => hC) ?_
  simp only [List.take_succ_cons, List.take_zero, List.drop_succ_cons, List.drop_zero, Nat.reduceAdd]
  repeat (go_big_quiet_step (fail))
  refine wpQuiet_nil ?_
  refine far.farO_nil ?_
  have KY : Hid (Chg no w v15) := KX.out.then Y15
  have HT2 : Hid (Tb gc gl h z b r rd wr s p q t (.slice a len c) (.slice a' n' c') v15) := HT.out.later Y15
  clear HT
  have HT : Hid (Tb gc gl h z b r rd wr s p q t (.slice a len c) (.slice a' n' c') v15) := HT2.out
  clear HT2
  clear HpK Y0 x0 z0 x1 z1 x2 z2 x3 z3 x4 z4 x5 z5 x6 z6 x7 z7 x8 z8 x9 z9 x10 z10 iK KX Y1 k1 Y2 k2 Y3 k3 Y4 k4 Y5 k5 Y6 k6 Y7 k7 Y8 k8 Y9 k9 Y10 k10 Y11 k11 Y12 k12 Y13 k13 Y14 k14 Y15 k15 HP12 HD13 HP14 HD15 HP16 HD17 HP18 HD19 HP20 HP21 HD22 HP23 HD24 HP25 HD26
  clear e1' e2' e3' LP pK
  have hi1 : ¬ 1125899906842624 < i := by omega
  have hj1 : ¬ 1125899906842624 < j := by omega
  have hj3 : 1048576 < j := hj2
  go_wp2_with fail
  obtain ⟨pK, hpK⟩ : ∃ pK : World → Prop, ∀ w', pK w' ↔ Chg no v15 w' := ⟨_, fun _ => Iff.rfl⟩
  obtain ⟨x0, x1, x2, x3, x4, x5, x6, x7, x8, x9, x10, iK⟩ := cfg_facts hpK HT.out.box
  obtain ⟨z0, z1, z2, z3, z4, z5, z6, z7, z8, z9, z10⟩ := lay_facts hpK HT.out.lay
  have HpK : Hid (∀ w', pK w' ↔ Chg no v15 w') := hpK
  have Y0 : Chg no v15 v15.drew := (Chg.refl no v15).drew
  clear hpK
  try simp only [List.append_eq, List.cons_append, List.nil_append]
  refine far.region_farM (fun κ w' => pK w') [2, 3, 6, 11, 12, 15, 21, 22, 25, 31, 32, 35, 41, 42, 45, 52, 56, 61, 63] (by kernel_rfl) (by kernel_rfl) ((HpK.out _).2 Y0) ?_
  intro LP e1' e2' e3'
  refine far.farO_stretch pK 2 0 19 e1' e2' e3' (by kernel_rfl) (by kernel_rfl) (fun κ w' hk1 hk2 hC => hC) ?_
  simp only [List.take_succ_cons, List.take_zero, List.drop_succ_cons, List.drop_zero, Nat.reduceAdd]
  repeat (go_big_quiet_step (fail))
  refine wpQuiet_nil ?_
  refine far.farO_enter e1' e2' 0 rfl rfl 28 #[layV ⟨h, z, b, r, rd, wr, s, p, q, t⟩ (.slice a' n' c'), .int .i64 i] (by kernel_rfl) (by kernel_rfl) ?_
  refine (HP28.out _ a' n' c').mono ?_
  rintro e u1 ⟨rfl, k1⟩
  have Y1 := Y0.then k1
  refine ⟨_, rfl, (HpK.out _).2 Y1, ?_⟩
  simp only [Act.put, List.setIfInBounds_toArray, List.set_cons_succ, List.set_cons_zero, Nat.reduceAdd]
  refine far.farO_enter e1' e2' 1 rfl rfl 27 #[.agg #[.int .i64 logu, .int .i64 logv]] (by kernel_rfl) (by kernel_rfl) ?_
  refine (HAlog.out _).mono ?_
  rintro e u2 ⟨rfl, k2⟩
  have Y2 := Y1.then k2
  refine ⟨_, rfl, (HpK.out _).2 Y2, ?_⟩
  simp only [Act.put, List.setIfInBounds_toArray, List.set_cons_succ, List.set_cons_zero, Nat.reduceAdd]
  refine far.farO_stretch pK 2 0 19 e1' e2' e3' (by kernel_rfl) (by kernel_rfl) (fun κ w' hk1 hk2 hC => hC) ?_
  simp only [List.take_succ_cons, List.take_zero, List.drop_succ_cons, List.drop_zero, Nat.reduceAdd]
  repeat (go_big_quiet_step (fail))
  refine wpQuiet_nil ?_
  refine far.farO_enter e1' e2' 2 rfl rfl 29 #[cfgV ⟨h, z, b, r, rd, wr, s, p, q, t⟩ (.slice a len c), .int .i64 i] (by kernel_rfl) (by kernel_rfl) ?_
  refine (HD29.out _).mono ?_
  rintro e u3 ⟨rfl, k3⟩
  have Y3 := Y2.then k3
  refine ⟨_, rfl, (HpK.out _).2 Y3, ?_⟩
  simp only [Act.put, List.setIfInBounds_toArray, List.set_cons_succ, List.set_cons_zero, Nat.reduceAdd]
  refine far.farO_stretch pK 4 0 19 e1' e2' e3' (by kernel_rfl) (by kernel_rfl) (fun κ w' hk1 hk2 hC => hC) ?_
  simp only [List.take_succ_cons, List.take_zero, List.drop_succ_cons, List.drop_zero, Nat.reduceAdd]
  repeat (go_big_quiet_step (fail))
  refine wpQuiet_nil ?_
  refine far.farO_enter e1' e2' 3 rfl rfl 30 #[layV ⟨h, z, b, r, rd, wr, s, p, q, t⟩ (.slice a' n' c'), .int .i64 i] (by kernel_rfl) (by kernel_rfl) ?_
  refine (HP30.out _ a' n' c').mono ?_
  rintro e u4 ⟨rfl, k4⟩
  have Y4 := Y3.then k4
  refine ⟨_, rfl, (HpK.out _).2 Y4, ?_⟩
  simp only [Act.put, List.setIfInBounds_toArray, List.set_cons_succ, List.set_cons_zero, Nat.reduceAdd]
  refine far.farO_enter e1' e2' 4 rfl rfl 27 #[.agg #[.int .i64 clogu, .int .i64 clogv]] (by kernel_rfl) (by kernel_rfl) ?_
  refine (HAclog.out _).mono ?_
  rintro e u5 ⟨rfl, k5⟩
  have Y5 := Y4.then k5
  refine ⟨_, rfl, (HpK.out _).2 Y5, ?_⟩
  simp only [Act.put, List.setIfInBounds_toArray, List.set_cons_succ, List.set_cons_zero, Nat.reduceAdd]
  refine far.farO_stretch pK 2 0 19 e1' e2' e3' (by kernel_rfl) (by kernel_rfl) (fun κ w' hk1 hk2 hC => hC) ?_
  simp only [List.take_succ_cons, List.take_zero, List.drop_succ_cons, List.drop_zero, Nat.reduceAdd]
  repeat (go_big_quiet_step (fail))
  refine wpQuiet_nil ?_
  refine far.farO_enter e1' e2' 5 rfl rfl 31 #[cfgV ⟨h, z, b, r, rd, wr, s, p, q, t⟩ (.slice a len c), .int .i64 i] (by kernel_rfl) (by kernel_rfl) ?_
  refine (HD31.out _).mono ?_
  rintro e u6 ⟨rfl, k6⟩
  have Y6 := Y5.then k6
  refine ⟨_, rfl, (HpK.out _).2 Y6, ?_⟩
  simp only [Act.put, List.setIfInBounds_toArray, List.set_cons_succ, List.set_cons_zero, Nat.reduceAdd]
  refine far.farO_stretch pK 5 0 19 e1' e2' e3' (by kernel_rfl) (by kernel_rfl) (fun κ w' hk1 hk2 hC => hC) ?_
  simp only [List.take_succ_cons, List.take_zero, List.drop_succ_cons, List.drop_zero, Nat.reduceAdd]
  repeat (go_big_quiet_step (fail))
  refine wpQuiet_nil ?_
  refine far.farO_enter e1' e2' 6 rfl rfl 32 #[layV ⟨h, z, b, r, rd, wr, s, p, q, t⟩ (.slice a' n' c'), .int .i64 i] (by kernel_rfl) (by kernel_rfl) ?_
  refine (HP32.out _ a' n' c').mono ?_
  rintro e u7 ⟨rfl, k7⟩
  have Y7 := Y6.then k7
  refine ⟨_, rfl, (HpK.out _).2 Y7, ?_⟩
  simp only [Act.put, List.setIfInBounds_toArray, List.set_cons_succ, List.set_cons_zero, Nat.reduceAdd]
  refine far.farO_enter e1' e2' 7 rfl rfl 27 #[.agg #[.int .i64 deltau, .int .i64 deltav]] (by kernel_rfl) (by kernel_rfl) ?_
  refine (HAdelta.out _).mono ?_
  rintro e u8 ⟨rfl, k8⟩
  have Y8 := Y7.then k8
  refine ⟨_, rfl, (HpK.out _).2 Y8, ?_⟩
  simp only [Act.put, List.setIfInBounds_toArray, List.set_cons_succ, List.set_cons_zero, Nat.reduceAdd]
  refine far.farO_stretch pK 2 0 19 e1' e2' e3' (by kernel_rfl) (by kernel_rfl) (fun κ w' hk1 hk2 hC => hC) ?_
  simp only [List.take_succ_cons, List.take_zero, List.drop_succ_cons, List.drop_zero, Nat.reduceAdd]
  repeat (go_big_quiet_step (fail))
  refine wpQuiet_nil ?_
  refine far.farO_enter e1' e2' 8 rfl rfl 33 #[cfgV ⟨h, z, b, r, rd, wr, s, p, q, t⟩ (.slice a len c), .int .i64 i] (by kernel_rfl) (by kernel_rfl) ?_
  refine (HD33.out _).mono ?_
  rintro e u9 ⟨rfl, k9⟩
  have Y9 := Y8.then k9
  refine ⟨_, rfl, (HpK.out _).2 Y9, ?_⟩
  simp only [Act.put, List.setIfInBounds_toArray, List.set_cons_succ, List.set_cons_zero, Nat.reduceAdd]
  refine far.farO_stretch pK 5 0 19 e1' e2' e3' (by kernel_rfl) (by kernel_rfl) (fun κ w' hk1 hk2 hC => hC) ?_
  simp only [List.take_succ_cons, List.take_zero, List.drop_succ_cons, List.drop_zero, Nat.reduceAdd]
  repeat (go_big_quiet_step (fail))
  refine wpQuiet_nil ?_
  refine far.farO_enter e1' e2' 9 rfl rfl 34 #[layV ⟨h, z, b, r, rd, wr, s, p, q, t⟩ (.slice a' n' c'), .int .i64 i] (by kernel_rfl) (by kernel_rfl) ?_
  refine (HP34.out _ a' n' c').mono ?_
  rintro e u10 ⟨rfl, k10⟩
  have Y10 := Y9.then k10
  refine ⟨_, rfl, (HpK.out _).2 Y10, ?_⟩
  simp only [Act.put, List.setIfInBounds_toArray, List.set_cons_succ, List.set_cons_zero, Nat.reduceAdd]
  refine far.farO_enter e1' e2' 10 rfl rfl 27 #[.agg #[.int .i64 fullu, .int .i64 fullv]] (by kernel_rfl) (by kernel_rfl) ?_
  refine (HAfull.out _).mono ?_
  rintro e u11 ⟨rfl, k11⟩
  have Y11 := Y10.then k11
  refine ⟨_, rfl, (HpK.out _).2 Y11, ?_⟩
  simp only [Act.put, List.setIfInBounds_toArray, List.set_cons_succ, List.set_cons_zero, Nat.reduceAdd]
  refine far.farO_stretch pK 2 0 19 e1' e2' e3' (by kernel_rfl) (by kernel_rfl) (fun κ w' hk1 hk2 hC => hC) ?_
  simp only [List.take_succ_cons, List.take_zero, List.drop_succ_cons, List.drop_zero, Nat.reduceAdd]
  repeat (go_big_quiet_step (fail))
  refine wpQuiet_nil ?_
  refine far.farO_enter e1' e2' 11 rfl rfl 35 #[cfgV ⟨h, z, b, r, rd, wr, s, p, q, t⟩ (.slice a len c), .int .i64 i] (by kernel_rfl) (by kernel_rfl) ?_
  refine (HD35.out _).mono ?_
  rintro e u12 ⟨rfl, k12⟩
  have Y12 := Y11.then k12
  refine ⟨_, rfl, (HpK.out _).2 Y12, ?_⟩
  simp only [Act.put, List.setIfInBounds_toArray, List.set_cons_succ, List.set_cons_zero, Nat.reduceAdd]
  refine far.farO_stretch pK 5 0 19 e1' e2' e3' (by kernel_rfl) (by kernel_rfl) (fun κ w' hk1 hk2 hC => hC) ?_
  simp only [List.take_succ_cons, List.take_zero, List.drop_succ_cons, List.drop_zero, Nat.reduceAdd]
  repeat (go_big_quiet_step (fail))
  refine wpQuiet_nil ?_
  refine far.farO_enter e1' e2' 12 rfl rfl 36 #[layV ⟨h, z, b, r, rd, wr, s, p, q, t⟩ (.slice a' n' c'), .int .i64 i] (by kernel_rfl) (by kernel_rfl) ?_
  refine (HP36.out _ a' n' c').mono ?_
  rintro e u13 ⟨rfl, k13⟩
  have Y13 := Y12.then k13
  refine ⟨_, rfl, (HpK.out _).2 Y13, ?_⟩
  simp only [Act.put, List.setIfInBounds_toArray, List.set_cons_succ, List.set_cons_zero, Nat.reduceAdd]
  refine far.farO_enter e1' e2' 13 rfl rfl 27 #[.agg #[.int .i64 checku, .int .i64 checkv]] (by kernel_rfl) (by kernel_rfl) ?_
  refine (HAcheck.out _).mono ?_
  rintro e u14 ⟨rfl, k14⟩
  have Y14 := Y13.then k14
  refine ⟨_, rfl, (HpK.out _).2 Y14, ?_⟩
  simp only [Act.put, List.setIfInBounds_toArray, List.set_cons_succ, List.set_cons_zero, Nat.reduceAdd]
  refine far.farO_stretch pK 2 0 19 e1' e2' e3' (by kernel_rfl) (by kernel_rfl) (fun κ w' hk1 hk2 hC => hC) ?_
  simp only [List.take_succ_cons, List.take_zero, List.drop_succ_cons, List.drop_zero, Nat.reduceAdd]
  repeat (go_big_quiet_step (fail))
  refine wpQuiet_nil ?_
  refine far.farO_enter e1' e2' 14 rfl rfl 37 #[cfgV ⟨h, z, b, r, rd, wr, s, p, q, t⟩ (.slice a len c), .int .i64 i] (by kernel_rfl) (by kernel_rfl) ?_
  refine (HD37.out _).mono ?_
  rintro e u15 ⟨rfl, k15⟩
  have Y15 := Y14.then k15
  refine ⟨_, rfl, (HpK.out _).2 Y15, ?_⟩
  simp only [Act.put, List.setIfInBounds_toArray, List.set_cons_succ, List.set_cons_zero, Nat.reduceAdd]
  refine far.farO_stretch pK 6 0 19 e1' e2' e3' (by kernel_rfl) (by kernel_rfl) (fun κ w' hk1 hk2 hC => hC) ?_
  simp only [List.take_succ_cons, List.take_zero, List.drop_succ_cons, List.drop_zero, Nat.reduceAdd]
  repeat (go_big_quiet_step (fail))
  refine wpQuiet_nil ?_
  refine far.farO_enter e1' e2' 15 rfl rfl 38 #[layV ⟨h, z, b, r, rd, wr, s, p, q, t⟩ (.slice a' n' c'), .int .i64 i, .int .i64 j] (by kernel_rfl) (by kernel_rfl) ?_
  refine (HP38.out _ a' n' c').mono ?_
  rintro e u16 ⟨rfl, k16⟩
  have Y16 := Y15.then k16
  refine ⟨_, rfl, (HpK.out _).2 Y16, ?_⟩
  simp only [Act.put, List.setIfInBounds_toArray, List.set_cons_succ, List.set_cons_zero, Nat.reduceAdd]
  refine far.farO_stretch pK 3 0 19 e1' e2' e3' (by kernel_rfl) (by kernel_rfl) (fun κ w' hk1 hk2 hC => hC) ?_
  simp only [List.take_succ_cons, List.take_zero, List.drop_succ_cons, List.drop_zero, Nat.reduceAdd]
  repeat (go_big_quiet_step (fail))
  refine wpQuiet_nil ?_
  refine far.farO_enter e1' e2' 16 rfl rfl 39 #[cfgV ⟨h, z, b, r, rd, wr, s, p, q, t⟩ (.slice a len c), .int .i64 i, .int .i64 j] (by kernel_rfl) (by kernel_rfl) ?_
  refine (HD39.out _).mono ?_
  rintro e u17 ⟨rfl, k17⟩
  have Y17 := Y16.then k17
  refine ⟨_, rfl, (HpK.out _).2 Y17, ?_⟩
  simp only [Act.put, List.setIfInBounds_toArray, List.set_cons_succ, List.set_cons_zero, Nat.reduceAdd]
  refine far.farO_stretch pK 4 0 19 e1' e2' e3' (by kernel_rfl) (by kernel_rfl) (fun κ w' hk1 hk2 hC => hC) ?_
  simp only [List.take_succ_cons, List.take_zero, List.drop_succ_cons, List.drop_zero, Nat.reduceAdd]
  repeat (go_big_quiet_step (fail))
  refine wpQuiet_nil ?_
  refine far.farO_enter e1' e2' 17 rfl rfl 40 #[layV ⟨h, z, b, r, rd, wr, s, p, q, t⟩ (.slice a' n' c')] (by kernel_rfl) (by kernel_rfl) ?_
  refine (HP40.out _ a' n' c').mono ?_
  rintro e u18 ⟨rfl, k18⟩
  have Y18 := Y17.then k18
  refine ⟨_, rfl, (HpK.out _).2 Y18, ?_⟩
  simp only [Act.put, List.setIfInBounds_toArray, List.set_cons_succ, List.set_cons_zero, Nat.reduceAdd]
  refine far.farO_stretch pK 1 0 19 e1' e2' e3' (by kernel_rfl) (by kernel_rfl) (fun κ w' hk1 hk2 hC => hC) ?_
  simp only [List.take_succ_cons, List.take_zero, List.drop_succ_cons, List.drop_zero, Nat.reduceAdd]
  repeat (go_big_quiet_step (fail))
  refine wpQuiet_nil ?_
  refine far.farO_enter e1' e2' 18 rfl rfl 41 #[cfgV ⟨h, z, b, r, rd, wr, s, p, q, t⟩ (.slice a len c)] (by kernel_rfl) (by kernel_rfl) ?_
  refine (HD41.out _).mono ?_
  rintro e u19 ⟨rfl, k19⟩
  have Y19 := Y18.then k19
  refine ⟨_, rfl, (HpK.out _).2 Y19, ?_⟩
  simp only [Act.put, List.setIfInBounds_toArray, List.set_cons_succ, List.set_cons_zero, Nat.reduceAdd]
  refine far.farO_stretch pK 2 0 19 e1' e2' e3' (by kernel_rfl) (by kernel_rfl) (fun κ w' hk1 hk2 hC => hC) ?_
  simp only [List.take_succ_cons, List.take_zero, List.drop_succ_cons, List.drop_zero, Nat.reduceAdd]
  repeat (go_big_quiet_step (fail))
  refine wpQuiet_nil ?_
  refine far.farO_nil ?_
  have KZ : Hid (Chg no w u19) := KY.out.then Y19
  have HT2 : Hid (Tb gc gl h z b r rd wr s p q t (.slice a len c) (.slice a' n' c') u19) := HT.out.later Y19
  clear HT
  have HT : Hid (Tb gc gl h z b r rd wr s p q t (.slice a len c) (.slice a' n' c') u19) := HT2.out
  clear HT2
  clear HpK Y0 x0 z0 x1 z1 x2 z2 x3 z3 x4 z4 x5 z5 x6 z6 x7 z7 x8 z8 x9 z9 x10 z10 iK KY Y1 k1 Y2 k2 Y3 k3 Y4 k4 Y5 k5 Y6 k6 Y7 k7 Y8 k8 Y9 k9 Y10 k10 Y11 k11 Y12 k12 Y13 k13 Y14 k14 Y15 k15 Y16 k16 Y17 k17 Y18 k18 Y19 k19 HP28 HD29 HAlog HP30 HD31 HAclog HP32 HD33 HAdelta HP34 HD35 HAfull HP36 HD37 HAcheck HP38 HD39 HP40 HD41 hneq
  clear e1' e2' e3' LP pK
  go_wp2_with fail
  obtain ⟨pK, hpK⟩ : ∃ pK : World → Prop, ∀ w', pK w' ↔ Chg no u19 w' := ⟨_, fun _ => Iff.rfl⟩
  obtain ⟨x0, x1, x2, x3, x4, x5, x6, x7, x8, x9, x10, iK⟩ := cfg_facts hpK HT.out.box
  obtain ⟨z0, z1, z2, z3, z4, z5, z6, z7, z8, z9, z10⟩ := lay_facts hpK HT.out.lay
  have HpK : Hid (∀ w', pK w' ↔ Chg no u19 w') := hpK
  have Y0 : Chg no u19 u19.drew := (Chg.refl no u19).drew
  clear hpK
  refine far.region_farM (fun κ w' => pK w') [0, 4, 7, 17, 21, 27, 29] (by kernel_rfl) (by kernel_rfl) ((HpK.out _).2 Y0) ?_
  intro LP e1' e2' e3'
  refine far.farO_enter e1' e2' 0 rfl rfl 7 #[] (by kernel_rfl) (by kernel_rfl) ?_
  refine (HFi.out _).mono ?_
  rintro e s1 ⟨rfl, k1⟩
  have Y1 := Y0.then k1
  refine ⟨_, rfl, (HpK.out _).2 Y1, ?_⟩
  simp only [Act.put, List.setIfInBounds_toArray, List.set_cons_succ, List.set_cons_zero, Nat.reduceAdd]
  refine far.farO_stretch pK 3 0 7 e1' e2' e3' (by kernel_rfl) (by kernel_rfl) (fun κ w' hk1 hk2 hC => hC) ?_
  simp only [List.take_succ_cons, List.take_zero, List.drop_succ_cons, List.drop_zero, Nat.reduceAdd]
  repeat (go_big_quiet_step (fail))
  refine wpQuiet_nil ?_
  refine far.farO_enter e1' e2' 1 rfl rfl 42 #[layV ⟨h, z, b, r, rd, wr, s, p, q, t⟩ (.slice a' n' c'), .int .i64 i] (by kernel_rfl) (by kernel_rfl) ?_
  refine (HP42.out _ a' n' c').mono ?_
  rintro e s2 ⟨rfl, k2⟩
  have Y2 := Y1.then k2
  refine ⟨_, rfl, (HpK.out _).2 Y2, ?_⟩
  simp only [Act.put, List.setIfInBounds_toArray, List.set_cons_succ, List.set_cons_zero, Nat.reduceAdd]
  refine far.farO_stretch pK 2 0 7 e1' e2' e3' (by kernel_rfl) (by kernel_rfl) (fun κ w' hk1 hk2 hC => hC) ?_
  simp only [List.take_succ_cons, List.take_zero, List.drop_succ_cons, List.drop_zero, Nat.reduceAdd]
  repeat (go_big_quiet_step (fail))
  refine wpQuiet_nil ?_
  refine far.farO_enter e1' e2' 2 rfl rfl 43 #[cfgV ⟨h, z, b, r, rd, wr, s, p, q, t⟩ (.slice a len c), .int .i64 i] (by kernel_rfl) (by kernel_rfl) ?_
  refine (HD43.out _).mono ?_
  rintro e s3 ⟨rfl, k3⟩
  have Y3 := Y2.then k3
  refine ⟨_, rfl, (HpK.out _).2 Y3, ?_⟩
  simp only [Act.put, List.setIfInBounds_toArray, List.set_cons_succ, List.set_cons_zero, Nat.reduceAdd]
  refine far.farO_stretch pK 9 0 7 e1' e2' e3' (by kernel_rfl) (by kernel_rfl) (fun κ w' hk1 hk2 hC => hC) ?_
  simp only [List.take_succ_cons, List.take_zero, List.drop_succ_cons, List.drop_zero, Nat.reduceAdd]
  repeat (go_big_quiet_step (fail))
  refine wpQuiet_nil ?_
  refine far.farO_over (by kernel_rfl) (by rw [e1']; exact (HpK.out _).2 Y3) ?_
  simp only [Act.put, List.setIfInBounds_toArray, List.set_cons_succ, List.set_cons_zero, Nat.reduceAdd]
  refine far.farO_stretch pK 3 0 7 e1' e2' e3' (by kernel_rfl) (by kernel_rfl) (fun κ w' hk1 hk2 hC => hC) ?_
  simp only [List.take_succ_cons, List.take_zero, List.drop_succ_cons, List.drop_zero, Nat.reduceAdd]
  repeat (go_big_quiet_step (fail))
  refine wpQuiet_nil ?_
  refine far.farO_over (by kernel_rfl) (by rw [e1']; exact (HpK.out _).2 Y3) ?_
  simp only [Act.put, List.setIfInBounds_toArray, List.set_cons_succ, List.set_cons_zero, Nat.reduceAdd]
  refine far.farO_stretch pK 5 0 7 e1' e2' e3' (by kernel_rfl) (by kernel_rfl) (fun κ w' hk1 hk2 hC => hC) ?_
  simp only [List.take_succ_cons, List.take_zero, List.drop_succ_cons, List.drop_zero, Nat.reduceAdd]
  repeat (go_big_quiet_step (fail))
  refine wpQuiet_nil ?_
  refine far.farO_enter e1' e2' 5 rfl rfl 46 #[layV ⟨h, z, b, r, rd, wr, s, p, q, t⟩ (.slice a' n' c')] (by kernel_rfl) (by kernel_rfl) ?_
  refine (HP46.out _ a' n' c').mono ?_
  rintro e s4 ⟨rfl, k4⟩
  have Y4 := Y3.then k4
  refine ⟨_, rfl, (HpK.out _).2 Y4, ?_⟩
  simp only [Act.put, List.setIfInBounds_toArray, List.set_cons_succ, List.set_cons_zero, Nat.reduceAdd]
  refine far.farO_stretch pK 1 0 7 e1' e2' e3' (by kernel_rfl) (by kernel_rfl) (fun κ w' hk1 hk2 hC => hC) ?_
  simp only [List.take_succ_cons, List.take_zero, List.drop_succ_cons, List.drop_zero, Nat.reduceAdd]
  repeat (go_big_quiet_step (fail))
  refine wpQuiet_nil ?_
  refine far.farO_enter e1' e2' 6 rfl rfl 47 #[cfgV ⟨h, z, b, r, rd, wr, s, p, q, t⟩ (.slice a len c)] (by kernel_rfl) (by kernel_rfl) ?_
  refine (HD47.out _).mono ?_
  rintro e s5 ⟨rfl, k5⟩
  have Y5 := Y4.then k5
  refine ⟨_, rfl, (HpK.out _).2 Y5, ?_⟩
  simp only [Act.put, List.setIfInBounds_toArray, List.set_cons_succ, List.set_cons_zero, Nat.reduceAdd]
  refine far.farO_stretch pK 11 0 7 e1' e2' e3' (by kernel_rfl) (by kernel_rfl) (fun κ w' hk1 hk2 hC => hC) ?_
  simp only [List.take_succ_cons, List.take_zero, List.drop_succ_cons, List.drop_zero, Nat.reduceAdd]
  repeat (go_big_quiet_step (fail))
  refine wpQuiet_nil ?_
  refine far.farO_nil ?_
  go_wp2
  go_ret
  exact ⟨rfl, (KZ.out.then Y5).below⟩

set_option maxRecDepth 100000 in
set_option maxHeartbeats 16000000 in
theorem all (V : Ways) (w : World) (K : Cf) (hK : okC K) (a : Option Addr) (len c : Nat) (A : Nat → Option Addr) (C : Nat → Nat) (Z : Nat → List Int) (R : Rws w a len A C Z) (hlen : len ≤ maxLen) (hM : mayP (intC K) len Z) (i j : Int) (hi : i ≤ 1125899906842624) (hj2 : j ≤ 1048576) :
    Calls Try.prog 3 #[cfgV K (.slice a len c), .int .i64 i, .int .i64 j] w fun e w' => e = .returned (.bool true) ∧ Below w.heap.size w w' := by
  have HF : Hid (∀ W, Chg no w W → Calls Try.prog 8 #[cfgV K (.slice a len c)] W (FewRes len Z W)) := fun W k => few_any W (intC K) a len c A C Z hlen (Rws.chg R k)
  have HO : Hid (∀ W, Chg no w W → Calls Try.prog 9 #[cfgV K (.slice a len c)] W fun e w' => ∃ a' n' c', e = .returned (.tuple #[layV K (.slice a' n' c'), .int .i64 0]) ∧ Chg no W w') := fun W k => by
    have := V.of1 W (intC K) a len c A C Z (Rws.chg R k) hlen hM
    rw [natC_intC] at this
    exact this
  have HP : Hid (∀ W, Chg no w W → Calls Try.prog 10 #[cfgV K (.slice a len c)] W fun e w' => e = .returned (.bool true) ∧ Chg no W w') := fun W k => V.may W (intC K) a len c A C Z (Rws.chg R k) hlen true (by simp [hM])
  have HD : Hid (∀ W, Chg no w W → Calls Try.prog 11 #[cfgV K (.slice a len c)] W fun e w' => e = .returned (.bool true) ∧ Chg no W w') := fun W k => rmayI W (intC K) a len c A C Z (Rws.chg R k) true (by simp [hM])
  have HFi : Hid (∀ W, Calls Try.prog 7 #[] W fun e w' => e = .returned (.bool true) ∧ Chg no W w') := fun W => first_any V W
  have HP12 : Hid (∀ W a' n' c', Calls Try.prog 12 #[layV K (.slice a' n' c')] W fun e w' => e = .returned (.int .i64 ((payN K : Nat) : Int)) ∧ Chg no W w') := fun W a' n' c' => V.pay W K hK a' n' c'
  have HD13 : Hid (∀ W, Calls Try.prog 13 #[cfgV K (.slice a len c)] W fun e w' => e = .returned (.int .i64 ((payN K : Nat) : Int)) ∧ Chg no W w') := fun W => rpay_any W K hK a len c
  have HP14 : Hid (∀ W a' n' c', Calls Try.prog 14 #[layV K (.slice a' n' c')] W fun e w' => e = .returned (.int .i64 ((12 + payN K : Nat) : Int)) ∧ Chg no W w') := fun W a' n' c' => V.cell W K hK a' n' c'
  have HD15 : Hid (∀ W, Calls Try.prog 15 #[cfgV K (.slice a len c)] W fun e w' => e = .returned (.int .i64 ((12 + payN K : Nat) : Int)) ∧ Chg no W w') := fun W => rcell_any W K hK a len c
  have HP16 : Hid (∀ W a' n' c', Calls Try.prog 16 #[layV K (.slice a' n' c')] W fun e w' => e = .returned (.int .i64 ((slotsN K : Nat) : Int)) ∧ Chg no W w') := fun W a' n' c' => V.slots W K hK a' n' c'
  have HD17 : Hid (∀ W, Calls Try.prog 17 #[cfgV K (.slice a len c)] W fun e w' => e = .returned (.int .i64 ((slotsN K : Nat) : Int)) ∧ Chg no W w') := fun W => rslots_any W K hK a len c
  have HP18 : Hid (∀ W a' n' c', Calls Try.prog 18 #[layV K (.slice a' n' c'), .int .i64 i] W fun e w' => e = .returned (.int .i64 (batchI K i)) ∧ Chg no W w') := fun W a' n' c' => V.batch W K hK a' n' c' i
  have HD19 : Hid (∀ W, Calls Try.prog 19 #[cfgV K (.slice a len c), .int .i64 i] W fun e w' => e = .returned (.int .i64 (batchI K i)) ∧ Chg no W w') := fun W => rbatch_any W K a len c i
  have HP20 : Hid (∀ W a' n' c', Calls Try.prog 20 #[layV K (.slice a' n' c')] W fun e w' => e = .returned (.int .i64 12) ∧ Chg no W w') := fun W a' n' c' => V.logl W K hK a' n' c'
  have HP21 : Hid (∀ W a' n' c', Calls Try.prog 21 #[layV K (.slice a' n' c')] W fun e w' => e = .returned (.int .i64 ((deltaN K : Nat) : Int)) ∧ Chg no W w') := fun W a' n' c' => V.deltal W K hK a' n' c'
  have HD22 : Hid (∀ W, Calls Try.prog 22 #[cfgV K (.slice a len c)] W fun e w' => e = .returned (.int .i64 ((deltaN K : Nat) : Int)) ∧ Chg no W w') := fun W => rdelta_any W K hK a len c
  have HP23 : Hid (∀ W a' n' c', Calls Try.prog 23 #[layV K (.slice a' n' c')] W fun e w' => e = .returned (.int .i64 ((fullN K : Nat) : Int)) ∧ Chg no W w') := fun W a' n' c' => V.fulll W K hK a' n' c'
  have HD24 : Hid (∀ W, Calls Try.prog 24 #[cfgV K (.slice a len c)] W fun e w' => e = .returned (.int .i64 ((fullN K : Nat) : Int)) ∧ Chg no W w') := fun W => rfull_any W K hK a len c
  have HP25 : Hid (∀ W a' n' c', Calls Try.prog 25 #[layV K (.slice a' n' c')] W fun e w' => e = .returned (.int .i64 ((clogN K : Nat) : Int)) ∧ Chg no W w') := fun W a' n' c' => V.clogl W K hK a' n' c'
  have HD26 : Hid (∀ W, Calls Try.prog 26 #[cfgV K (.slice a len c)] W fun e w' => e = .returned (.int .i64 ((clogN K : Nat) : Int)) ∧ Chg no W w') := fun W => rclog_any W K hK a len c
  have HP28 : Hid (∀ W a' n' c', Calls Try.prog 28 #[layV K (.slice a' n' c'), .int .i64 i] W fun e w' => e = .returned (areaV (logA K i)) ∧ Chg no W w') := fun W a' n' c' => V.log W K hK a' n' c' i (by omega)
  have HD29 : Hid (∀ W, Calls Try.prog 29 #[cfgV K (.slice a len c), .int .i64 i] W fun e w' => e = .returned (areaV (logA K i)) ∧ Chg no W w') := fun W => rlogA W K hK a len c i
  have HAlog : Hid (∀ W, Calls Try.prog 27 #[areaV (logA K i)] W fun e w' => e = .returned (areaV (logA K i)) ∧ Chg no W w') := fun W => area_any W _ _
  have HP30 : Hid (∀ W a' n' c', Calls Try.prog 30 #[layV K (.slice a' n' c'), .int .i64 i] W fun e w' => e = .returned (areaV (clogA K i)) ∧ Chg no W w') := fun W a' n' c' => V.clog W K hK a' n' c' i (by omega)
  have HD31 : Hid (∀ W, Calls Try.prog 31 #[cfgV K (.slice a len c), .int .i64 i] W fun e w' => e = .returned (areaV (clogA K i)) ∧ Chg no W w') := fun W => rclogA W K hK a len c i
  have HAclog : Hid (∀ W, Calls Try.prog 27 #[areaV (clogA K i)] W fun e w' => e = .returned (areaV (clogA K i)) ∧ Chg no W w') := fun W => area_any W _ _
  have HP32 : Hid (∀ W a' n' c', Calls Try.prog 32 #[layV K (.slice a' n' c'), .int .i64 i] W fun e w' => e = .returned (areaV (deltaA K i)) ∧ Chg no W w') := fun W a' n' c' => V.delta W K hK a' n' c' i (by omega)
  have HD33 : Hid (∀ W, Calls Try.prog 33 #[cfgV K (.slice a len c), .int .i64 i] W fun e w' => e = .returned (areaV (deltaA K i)) ∧ Chg no W w') := fun W => rdeltaA W K hK a len c i (by omega)
  have HAdelta : Hid (∀ W, Calls Try.prog 27 #[areaV (deltaA K i)] W fun e w' => e = .returned (areaV (deltaA K i)) ∧ Chg no W w') := fun W => area_any W _ _
  have HP34 : Hid (∀ W a' n' c', Calls Try.prog 34 #[layV K (.slice a' n' c'), .int .i64 i] W fun e w' => e = .returned (areaV (fullA K i)) ∧ Chg no W w') := fun W a' n' c' => V.full W K hK a' n' c' i (by omega)
  have HD35 : Hid (∀ W, Calls Try.prog 35 #[cfgV K (.slice a len c), .int .i64 i] W fun e w' => e = .returned (areaV (fullA K i)) ∧ Chg no W w') := fun W => rfullA W K hK a len c i (by omega)
  have HAfull : Hid (∀ W, Calls Try.prog 27 #[areaV (fullA K i)] W fun e w' => e = .returned (areaV (fullA K i)) ∧ Chg no W w') := fun W => area_any W _ _
  have HP36 : Hid (∀ W a' n' c', Calls Try.prog 36 #[layV K (.slice a' n' c'), .int .i64 i] W fun e w' => e = .returned (areaV (checkA K i)) ∧ Chg no W w') := fun W a' n' c' => V.check W K hK a' n' c' i (by omega)
  have HD37 : Hid (∀ W, Calls Try.prog 37 #[cfgV K (.slice a len c), .int .i64 i] W fun e w' => e = .returned (areaV (checkA K i)) ∧ Chg no W w') := fun W => rcheckA W K hK a len c i (by omega)
  have HAcheck : Hid (∀ W, Calls Try.prog 27 #[areaV (checkA K i)] W fun e w' => e = .returned (areaV (checkA K i)) ∧ Chg no W w') := fun W => area_any W _ _
  have HP38 : Hid (∀ W a' n' c', Calls Try.prog 38 #[layV K (.slice a' n' c'), .int .i64 i, .int .i64 j] W fun e w' => e = .returned (.int .i64 (bucketA K i j)) ∧ Chg no W w') := fun W a' n' c' => V.bucket W K hK a' n' c' i j
  have HD39 : Hid (∀ W, Calls Try.prog 39 #[cfgV K (.slice a len c), .int .i64 i, .int .i64 j] W fun e w' => e = .returned (.int .i64 (bucketA K i j)) ∧ Chg no W w') := fun W => rbucketA W K hK a len c i j
  have HP40 : Hid (∀ W a' n' c', Calls Try.prog 40 #[layV K (.slice a' n' c')] W fun e w' => e = .returned (.int .i64 (st5 K : Int)) ∧ Chg no W w') := fun W a' n' c' => V.total W K hK a' n' c'
  have HD41 : Hid (∀ W, Calls Try.prog 41 #[cfgV K (.slice a len c)] W fun e w' => e = .returned (.int .i64 (st5 K : Int)) ∧ Chg no W w') := fun W => rtotalA W K hK a len c
  have HP42 : Hid (∀ W a' n' c', Calls Try.prog 42 #[layV K (.slice a' n' c'), .int .i64 i] W fun e w' => e = .returned (.int .i64 (tickA K i)) ∧ Chg no W w') := fun W a' n' c' => V.tick W K hK a' n' c' i (by omega)
  have HD43 : Hid (∀ W, Calls Try.prog 43 #[cfgV K (.slice a len c), .int .i64 i] W fun e w' => e = .returned (.int .i64 (tickA K i)) ∧ Chg no W w') := fun W => rtickA W K hK a len c i (by omega)
  have HP46 : Hid (∀ W a' n' c', Calls Try.prog 46 #[layV K (.slice a' n' c')] W fun e w' => e = .returned (.int .i64 ((5 + cFull K : Nat) : Int)) ∧ Chg no W w') := fun W a' n' c' => V.make W K hK a' n' c'
  have HD47 : Hid (∀ W, Calls Try.prog 47 #[cfgV K (.slice a len c)] W fun e w' => e = .returned (.int .i64 ((5 + cFull K : Nat) : Int)) ∧ Chg no W w') := fun W => rmakeA W K hK a len c
  have HP44 : Hid (∀ W a' n' c', Calls Try.prog 44 #[layV K (.slice a' n' c'), .int .i64 i, .int .i64 j] W fun e w' => e = .returned (.int .i64 (recA K i j)) ∧ Chg no W w') := fun W a' n' c' => V.recov W K hK a' n' c' i j (by omega) (by omega)
  have HD45 : Hid (∀ W, Calls Try.prog 45 #[cfgV K (.slice a len c), .int .i64 i, .int .i64 j] W fun e w' => e = .returned (.int .i64 (recA K i j)) ∧ Chg no W w') := fun W => rrecA W K hK a len c i j (by omega) (by omega)
  obtain ⟨P, hP⟩ : ∃ x, payN K = x := ⟨_, rfl⟩
  obtain ⟨S, hS⟩ : ∃ x, slotsN K = x := ⟨_, rfl⟩
  obtain ⟨LD, hLD⟩ : ∃ x, deltaN K = x := ⟨_, rfl⟩
  obtain ⟨LF, hLF⟩ : ∃ x, fullN K = x := ⟨_, rfl⟩
  obtain ⟨LC, hLC⟩ : ∃ x, clogN K = x := ⟨_, rfl⟩
  obtain ⟨BI, hBI⟩ : ∃ x, batchI K i = x := ⟨_, rfl⟩
  obtain ⟨T5, hT5⟩ : ∃ x, st5 K = x := ⟨_, rfl⟩
  obtain ⟨CF, hCF⟩ : ∃ x, 5 + cFull K = x := ⟨_, rfl⟩
  obtain ⟨BU, hBU⟩ : ∃ x, bucketA K i j = x := ⟨_, rfl⟩
  obtain ⟨TI, hTI⟩ : ∃ x, tickA K i = x := ⟨_, rfl⟩
  obtain ⟨logu, hlogu⟩ : ∃ x, (logA K i).1 = x := ⟨_, rfl⟩
  obtain ⟨clogu, hclogu⟩ : ∃ x, (clogA K i).1 = x := ⟨_, rfl⟩
  obtain ⟨deltau, hdeltau⟩ : ∃ x, (deltaA K i).1 = x := ⟨_, rfl⟩
  obtain ⟨fullu, hfullu⟩ : ∃ x, (fullA K i).1 = x := ⟨_, rfl⟩
  obtain ⟨checku, hchecku⟩ : ∃ x, (checkA K i).1 = x := ⟨_, rfl⟩
  obtain ⟨logv, hlogv⟩ : ∃ x, (logA K i).2 = x := ⟨_, rfl⟩
  obtain ⟨clogv, hclogv⟩ : ∃ x, (clogA K i).2 = x := ⟨_, rfl⟩
  obtain ⟨deltav, hdeltav⟩ : ∃ x, (deltaA K i).2 = x := ⟨_, rfl⟩
  obtain ⟨fullv, hfullv⟩ : ∃ x, (fullA K i).2 = x := ⟨_, rfl⟩
  obtain ⟨checkv, hcheckv⟩ : ∃ x, (checkA K i).2 = x := ⟨_, rfl⟩
  obtain ⟨RC, hRC⟩ : ∃ x, recA K i j = x := ⟨_, rfl⟩
  simp only [areaV, hP, hS, hLD, hLF, hLC, hBI, hT5, hCF, hBU, hTI, hlogu, hclogu, hdeltau, hfullu, hchecku, hlogv, hclogv, hdeltav, hfullv, hcheckv, hRC] at HP12 HD13 HP14 HD15 HP16 HD17 HP18 HD19 HP20 HP21 HD22 HP23 HD24 HP25 HD26 HP28 HD29 HAlog HP30 HD31 HAclog HP32 HD33 HAdelta HP34 HD35 HAfull HP36 HD37 HAcheck HP38 HD39 HP40 HD41 HP42 HD43 HP46 HD47 HP44 HD45
  have hneq := neq37s
  obtain ⟨h, z, b, r, rd, wr, s, p, q, t⟩ := K
  try simp only at *
  clear hK R hlen hM hP hS hLD hLF hLC hBI hT5 hCF hBU hTI hlogu hclogu hdeltau hfullu hchecku hlogv hclogv hdeltav hfullv hcheckv hRC
  go_enter Try.func3, Try.ntmps3
  go_wp2_with fail
  obtain ⟨w1, hw1⟩ : ∃ w1, w.alloc (cfgO h z b r rd wr s p q t (.slice a len c)) = w1 := ⟨_, rfl⟩
  have hb : w1.heap[w.heap.size]? = some (cfgO h z b r rd wr s p q t (.slice a len c)) := by rw [← hw1]; exact heap_alloc_new w _
  have K1 : Hid (Chg no w w1) := by rw [← hw1]; exact (Chg.refl no w).alloc _
  rw [hw1]
  obtain ⟨gc, hg⟩ : ∃ g, w.heap.size = g := ⟨_, rfl⟩
  rw [hg] at hb ⊢
  have HB : Hid (∀ W, Chg no w1 W → W.heap[gc]? = some (cfgO h z b r rd wr s p q t (.slice a len c))) := fun W k => k.heap hb id
  have HG : Hid (w.heap.size = gc) := hg
  clear hw1 hg hb
  refine (HFi.out _).mono ?_
  rintro e w2 ⟨rfl, k2⟩
  have K2 : Hid (Chg no w1 w2) := k2
  obtain ⟨c0, c1, c2, c3, c4, c5, c6, c7, c8, c9, c10⟩ := cfg_cells (HB.out w2 k2)
  have HF2 := HF.out w2 (K1.out.then k2)
  clear k2 HF
  go_wp2_with fail
  refine HF2.mono ?_
  rintro e w3 ⟨B, rfl, k3, hB⟩
  have K3 : Hid (Chg no w1 w3) := K2.out.then k3
  clear HF2 k3 hB c0 c1 c2 c3 c4 c5 c6 c7 c8 c9 c10 K2
  cases B
  · go_wp2_with fail
    refine (HFi.out _).mono ?_
    rintro e w4 ⟨rfl, k4⟩
    go_wp2
    go_ret
    exact ⟨rfl, ((K1.out.then K3.out).then k4).below⟩
  obtain ⟨c0, c1, c2, c3, c4, c5, c6, c7, c8, c9, c10⟩ := cfg_cells (HB.out w3 K3.out)
  have HO3 := HO.out w3 (K1.out.then K3.out)
  go_wp2_with fail
  refine HO3.mono ?_
  rintro e w4 ⟨a', n', c', rfl, k4⟩
  have K4 : Hid (Chg no w1 w4) := K3.out.then k4
  clear HO3 k4 c0 c1 c2 c3 c4 c5 c6 c7 c8 c9 c10 K3 HO
  go_wp2_with fail
  obtain ⟨w5, hw5⟩ : ∃ w5, w4.alloc (layO h z b r rd wr s p q t (.slice a' n' c')) = w5 := ⟨_, rfl⟩
  have K5 : Hid (Chg no w1 w5) := by rw [← hw5]; exact K4.out.alloc _
  have hl : w5.heap[w4.heap.size]? = some (layO h z b r rd wr s p q t (.slice a' n' c')) := by rw [← hw5]; exact heap_alloc_new w4 _
  rw [hw5]
  obtain ⟨gl, hgl⟩ : ∃ g, w4.heap.size = g := ⟨_, rfl⟩
  rw [hgl] at hl ⊢
  have HT : Hid (Tb gc gl h z b r rd wr s p q t (.slice a len c) (.slice a' n' c') w5) := ⟨HB.out w5 K5.out, hl⟩
  have KW : Hid (Chg no w w5) := K1.out.then K5.out
  clear hw5 K4 hl hgl HB K5 K1
  obtain ⟨pK, hpK⟩ : ∃ pK : World → Prop, ∀ w', pK w' ↔ Chg no w5 w' := ⟨_, fun _ => Iff.rfl⟩
  obtain ⟨x0, x1, x2, x3, x4, x5, x6, x7, x8, x9, x10, iK⟩ := cfg_facts hpK HT.out.box
  obtain ⟨z0, z1, z2, z3, z4, z5, z6, z7, z8, z9, z10⟩ := lay_facts hpK HT.out.lay
  have HpK : Hid (∀ w', pK w' ↔ Chg no w5 w') := hpK
  have Y0 : Chg no w5 w5.drew := (Chg.refl no w5).drew
  clear hpK
  refine far.region_farM (fun κ w' => pK w') [1, 3, 9] (by kernel_rfl) (by kernel_rfl) ((HpK.out _).2 Y0) ?_
  intro LP e1' e2' e3'
  refine far.farO_stretch pK 1 0 3 e1' e2' e3' (by kernel_rfl) (by kernel_rfl) (fun κ w' hk1 hk2 hC => hC) ?_
  simp only [List.take_succ_cons, List.take_zero, List.drop_succ_cons, List.drop_zero, Nat.reduceAdd]
  repeat (go_big_quiet_step (fail))
  refine wpQuiet_nil ?_
  refine far.farO_enter e1' e2' 0 rfl rfl 10 #[cfgV ⟨h, z, b, r, rd, wr, s, p, q, t⟩ (.slice a len c)] (by kernel_rfl) (by kernel_rfl) ?_
  refine (HP.out _ (KW.out.then Y0)).mono ?_
  rintro e w6 ⟨rfl, k1⟩
  have Y1 := Y0.then k1
  refine ⟨_, rfl, (HpK.out _).2 Y1, ?_⟩
  simp only [Act.put, List.setIfInBounds_toArray, List.set_cons_succ, List.set_cons_zero, Nat.reduceAdd]
  refine far.farO_stretch pK 1 0 3 e1' e2' e3' (by kernel_rfl) (by kernel_rfl) (fun κ w' hk1 hk2 hC => hC) ?_
  simp only [List.take_succ_cons, List.take_zero, List.drop_succ_cons, List.drop_zero, Nat.reduceAdd]
  repeat (go_big_quiet_step (fail))
  refine wpQuiet_nil ?_
  refine far.farO_enter e1' e2' 1 rfl rfl 11 #[cfgV ⟨h, z, b, r, rd, wr, s, p, q, t⟩ (.slice a len c)] (by kernel_rfl) (by kernel_rfl) ?_
  refine (HD.out _ (KW.out.then Y1)).mono ?_
  rintro e w7 ⟨rfl, k2⟩
  have Y2 := Y1.then k2
  refine ⟨_, rfl, (HpK.out _).2 Y2, ?_⟩
  simp only [Act.put, List.setIfInBounds_toArray, List.set_cons_succ, List.set_cons_zero, Nat.reduceAdd]
  refine far.farO_stretch pK 5 0 3 e1' e2' e3' (by kernel_rfl) (by kernel_rfl) (fun κ w' hk1 hk2 hC => hC) ?_
  simp only [List.take_succ_cons, List.take_zero, List.drop_succ_cons, List.drop_zero, Nat.reduceAdd]
  repeat (go_big_quiet_step (fail))
  refine wpQuiet_nil ?_
  refine far.farO_enter e1' e2' 2 rfl rfl 10 #[cfgV ⟨h, z, b, r, rd, wr, s, p, q, t⟩ (.slice a len c)] (by kernel_rfl) (by kernel_rfl) ?_
  refine (HP.out _ (KW.out.then Y2)).mono ?_
  rintro e w8 ⟨rfl, k3⟩
  have Y3 := Y2.then k3
  refine ⟨_, rfl, (HpK.out _).2 Y3, ?_⟩
  simp only [Act.put, List.setIfInBounds_toArray, List.set_cons_succ, List.set_cons_zero, Nat.reduceAdd]
  refine far.farO_stretch pK 10 0 3 e1' e2' e3' (by kernel_rfl) (by kernel_rfl) (fun κ w' hk1 hk2 hC => hC) ?_
  simp only [List.take_succ_cons, List.take_zero, List.drop_succ_cons, List.drop_zero, Nat.reduceAdd]
  repeat (go_big_quiet_step (fail))
  refine wpQuiet_nil ?_
  refine far.farO_nil ?_
  have HT2 : Hid (Tb gc gl h z b r rd wr s p q t (.slice a len c) (.slice a' n' c') w8) := HT.out.later Y3
  clear HT
  have HT : Hid (Tb gc gl h z b r rd wr s p q t (.slice a len c) (.slice a' n' c') w8) := HT2.out
  clear HT2
  have KX : Hid (Chg no w w8) := KW.out.then Y3
  clear HpK Y0 x0 z0 x1 z1 x2 z2 x3 z3 x4 z4 x5 z5 x6 z6 x7 z7 x8 z8 x9 z9 x10 z10 iK KW Y1 Y2 Y3 k1 k2 k3 HP HD
  clear e1' e2' e3' LP pK
  go_wp2_with fail
  obtain ⟨pK, hpK⟩ : ∃ pK : World → Prop, ∀ w', pK w' ↔ Chg no w8 w' := ⟨_, fun _ => Iff.rfl⟩
  obtain ⟨x0, x1, x2, x3, x4, x5, x6, x7, x8, x9, x10, iK⟩ := cfg_facts hpK HT.out.box
  obtain ⟨z0, z1, z2, z3, z4, z5, z6, z7, z8, z9, z10⟩ := lay_facts hpK HT.out.lay
  have HpK : Hid (∀ w', pK w' ↔ Chg no w8 w') := hpK
  have Y0 : Chg no w8 w8.drew := (Chg.refl no w8).drew
  clear hpK
  refine far.region_farM (fun κ w' => pK w') [1, 3, 7, 9, 14, 16, 22, 25, 30, 35, 37, 42, 44, 49, 51] (by kernel_rfl) (by kernel_rfl) ((HpK.out _).2 Y0) ?_
  intro LP e1' e2' e3'
  refine far.farO_stretch pK 1 0 15 e1' e2' e3' (by kernel_rfl) (by kernel_rfl) (fun κ w' hk1 hk2 hC => hC) ?_
  simp only [List.take_succ_cons, List.take_zero, List.drop_succ_cons, List.drop_zero, Nat.reduceAdd]
  repeat (go_big_quiet_step (fail))
  refine wpQuiet_nil ?_
  refine far.farO_enter e1' e2' 0 rfl rfl 12 #[layV ⟨h, z, b, r, rd, wr, s, p, q, t⟩ (.slice a' n' c')] (by kernel_rfl) (by kernel_rfl) ?_
  refine (HP12.out _ a' n' c').mono ?_
  rintro e v1 ⟨rfl, k1⟩
  have Y1 := Y0.then k1
  refine ⟨_, rfl, (HpK.out _).2 Y1, ?_⟩
  simp only [Act.put, List.setIfInBounds_toArray, List.set_cons_succ, List.set_cons_zero, Nat.reduceAdd]
  refine far.farO_stretch pK 1 0 15 e1' e2' e3' (by kernel_rfl) (by kernel_rfl) (fun κ w' hk1 hk2 hC => hC) ?_
  simp only [List.take_succ_cons, List.take_zero, List.drop_succ_cons, List.drop_zero, Nat.reduceAdd]
  repeat (go_big_quiet_step (fail))
  refine wpQuiet_nil ?_
  refine far.farO_enter e1' e2' 1 rfl rfl 13 #[cfgV ⟨h, z, b, r, rd, wr, s, p, q, t⟩ (.slice a len c)] (by kernel_rfl) (by kernel_rfl) ?_
  refine (HD13.out _).mono ?_
  rintro e v2 ⟨rfl, k2⟩
  have Y2 := Y1.then k2
  refine ⟨_, rfl, (HpK.out _).2 Y2, ?_⟩
  simp only [Act.put, List.setIfInBounds_toArray, List.set_cons_succ, List.set_cons_zero, Nat.reduceAdd]
  refine far.farO_stretch pK 3 0 15 e1' e2' e3' (by kernel_rfl) (by kernel_rfl) (fun κ w' hk1 hk2 hC => hC) ?_
  simp only [List.take_succ_cons, List.take_zero, List.drop_succ_cons, List.drop_zero, Nat.reduceAdd]
  repeat (go_big_quiet_step (fail))
  refine wpQuiet_nil ?_
  refine far.farO_enter e1' e2' 2 rfl rfl 14 #[layV ⟨h, z, b, r, rd, wr, s, p, q, t⟩ (.slice a' n' c')] (by kernel_rfl) (by kernel_rfl) ?_
  refine (HP14.out _ a' n' c').mono ?_
  rintro e v3 ⟨rfl, k3⟩
  have Y3 := Y2.then k3
  refine ⟨_, rfl, (HpK.out _).2 Y3, ?_⟩
  simp only [Act.put, List.setIfInBounds_toArray, List.set_cons_succ, List.set_cons_zero, Nat.reduceAdd]
  refine far.farO_stretch pK 1 0 15 e1' e2' e3' (by kernel_rfl) (by kernel_rfl) (fun κ w' hk1 hk2 hC => hC) ?_
  simp only [List.take_succ_cons, List.take_zero, List.drop_succ_cons, List.drop_zero, Nat.reduceAdd]
  repeat (go_big_quiet_step (fail))
  refine wpQuiet_nil ?_
  refine far.farO_enter e1' e2' 3 rfl rfl 15 #[cfgV ⟨h, z, b, r, rd, wr, s, p, q, t⟩ (.slice a len c)] (by kernel_rfl) (by kernel_rfl) ?_
  refine (HD15.out _).mono ?_
  rintro e v4 ⟨rfl, k4⟩
  have Y4 := Y3.then k4
  refine ⟨_, rfl, (HpK.out _).2 Y4, ?_⟩
  simp only [Act.put, List.setIfInBounds_toArray, List.set_cons_succ, List.set_cons_zero, Nat.reduceAdd]
  refine far.farO_stretch pK 4 0 15 e1' e2' e3' (by kernel_rfl) (by kernel_rfl) (fun κ w' hk1 hk2 hC => hC) ?_
  simp only [List.take_succ_cons, List.take_zero, List.drop_succ_cons, List.drop_zero, Nat.reduceAdd]
  repeat (go_big_quiet_step (fail))
  refine wpQuiet_nil ?_
  refine far.farO_enter e1' e2' 4 rfl rfl 16 #[layV ⟨h, z, b, r, rd, wr, s, p, q, t⟩ (.slice a' n' c')] (by kernel_rfl) (by kernel_rfl) ?_
  refine (HP16.out _ a' n' c').mono ?_
  rintro e v5 ⟨rfl, k5⟩
  have Y5 := Y4.then k5
  refine ⟨_, rfl, (HpK.out _).2 Y5, ?_⟩
  simp only [Act.put, List.setIfInBounds_toArray, List.set_cons_succ, List.set_cons_zero, Nat.reduceAdd]
  refine far.farO_stretch pK 1 0 15 e1' e2' e3' (by kernel_rfl) (by kernel_rfl) (fun κ w' hk1 hk2 hC => hC) ?_
  simp only [List.take_succ_cons, List.take_zero, List.drop_succ_cons, List.drop_zero, Nat.reduceAdd]
  repeat (go_big_quiet_step (fail))
  refine wpQuiet_nil ?_
  refine far.farO_enter e1' e2' 5 rfl rfl 17 #[cfgV ⟨h, z, b, r, rd, wr, s, p, q, t⟩ (.slice a len c)] (by kernel_rfl) (by kernel_rfl) ?_
  refine (HD17.out _).mono ?_
  rintro e v6 ⟨rfl, k6⟩
  have Y6 := Y5.then k6
  refine ⟨_, rfl, (HpK.out _).2 Y6, ?_⟩
  simp only [Act.put, List.setIfInBounds_toArray, List.set_cons_succ, List.set_cons_zero, Nat.reduceAdd]
  refine far.farO_stretch pK 5 0 15 e1' e2' e3' (by kernel_rfl) (by kernel_rfl) (fun κ w' hk1 hk2 hC => hC) ?_
  simp only [List.take_succ_cons, List.take_zero, List.drop_succ_cons, List.drop_zero, Nat.reduceAdd]
  repeat (go_big_quiet_step (fail))
  refine wpQuiet_nil ?_
  refine far.farO_enter e1' e2' 6 rfl rfl 18 #[layV ⟨h, z, b, r, rd, wr, s, p, q, t⟩ (.slice a' n' c'), .int .i64 i] (by kernel_rfl) (by kernel_rfl) ?_
  refine (HP18.out _ a' n' c').mono ?_
  rintro e v7 ⟨rfl, k7⟩
  have Y7 := Y6.then k7
  refine ⟨_, rfl, (HpK.out _).2 Y7, ?_⟩
  simp only [Act.put, List.setIfInBounds_toArray, List.set_cons_succ, List.set_cons_zero, Nat.reduceAdd]
  refine far.farO_stretch pK 2 0 15 e1' e2' e3' (by kernel_rfl) (by kernel_rfl) (fun κ w' hk1 hk2 hC => hC) ?_
  simp only [List.take_succ_cons, List.take_zero, List.drop_succ_cons, List.drop_zero, Nat.reduceAdd]
  repeat (go_big_quiet_step (fail))
  refine wpQuiet_nil ?_
  refine far.farO_enter e1' e2' 7 rfl rfl 19 #[cfgV ⟨h, z, b, r, rd, wr, s, p, q, t⟩ (.slice a len c), .int .i64 i] (by kernel_rfl) (by kernel_rfl) ?_
  refine (HD19.out _).mono ?_
  rintro e v8 ⟨rfl, k8⟩
  have Y8 := Y7.then k8
  refine ⟨_, rfl, (HpK.out _).2 Y8, ?_⟩
  simp only [Act.put, List.setIfInBounds_toArray, List.set_cons_succ, List.set_cons_zero, Nat.reduceAdd]
  refine far.farO_stretch pK 4 0 15 e1' e2' e3' (by kernel_rfl) (by kernel_rfl) (fun κ w' hk1 hk2 hC => hC) ?_
  simp only [List.take_succ_cons, List.take_zero, List.drop_succ_cons, List.drop_zero, Nat.reduceAdd]
  repeat (go_big_quiet_step (fail))
  refine wpQuiet_nil ?_
  refine far.farO_enter e1' e2' 8 rfl rfl 20 #[layV ⟨h, z, b, r, rd, wr, s, p, q, t⟩ (.slice a' n' c')] (by kernel_rfl) (by kernel_rfl) ?_
  refine (HP20.out _ a' n' c').mono ?_
  rintro e v9 ⟨rfl, k9⟩
  have Y9 := Y8.then k9
  refine ⟨_, rfl, (HpK.out _).2 Y9, ?_⟩
  simp only [Act.put, List.setIfInBounds_toArray, List.set_cons_succ, List.set_cons_zero, Nat.reduceAdd]
  refine far.farO_stretch pK 4 0 15 e1' e2' e3' (by kernel_rfl) (by kernel_rfl) (fun κ w' hk1 hk2 hC => hC) ?_
  simp only [List.take_succ_cons, List.take_zero, List.drop_succ_cons, List.drop_zero, Nat.reduceAdd]
  repeat (go_big_quiet_step (fail))
  refine wpQuiet_nil ?_
  refine far.farO_enter e1' e2' 9 rfl rfl 21 #[layV ⟨h, z, b, r, rd, wr, s, p, q, t⟩ (.slice a' n' c')] (by kernel_rfl) (by kernel_rfl) ?_
  refine (HP21.out _ a' n' c').mono ?_
  rintro e v10 ⟨rfl, k10⟩
  have Y10 := Y9.then k10
  refine ⟨_, rfl, (HpK.out _).2 Y10, ?_⟩
  simp only [Act.put, List.setIfInBounds_toArray, List.set_cons_succ, List.set_cons_zero, Nat.reduceAdd]
  refine far.farO_stretch pK 1 0 15 e1' e2' e3' (by kernel_rfl) (by kernel_rfl) (fun κ w' hk1 hk2 hC => hC) ?_
  simp only [List.take_succ_cons, List.take_zero, List.drop_succ_cons, List.drop_zero, Nat.reduceAdd]
  repeat (go_big_quiet_step (fail))
  refine wpQuiet_nil ?_
  refine far.farO_enter e1' e2' 10 rfl rfl 22 #[cfgV ⟨h, z, b, r, rd, wr, s, p, q, t⟩ (.slice a len c)] (by kernel_rfl) (by kernel_rfl) ?_
  refine (HD22.out _).mono ?_
  rintro e v11 ⟨rfl, k11⟩
  have Y11 := Y10.then k11
  refine ⟨_, rfl, (HpK.out _).2 Y11, ?_⟩
  simp only [Act.put, List.setIfInBounds_toArray, List.set_cons_succ, List.set_cons_zero, Nat.reduceAdd]
  refine far.farO_stretch pK 4 0 15 e1' e2' e3' (by kernel_rfl) (by kernel_rfl) (fun κ w' hk1 hk2 hC => hC) ?_
  simp only [List.take_succ_cons, List.take_zero, List.drop_succ_cons, List.drop_zero, Nat.reduceAdd]
  repeat (go_big_quiet_step (fail))
  refine wpQuiet_nil ?_
  refine far.farO_enter e1' e2' 11 rfl rfl 23 #[layV ⟨h, z, b, r, rd, wr, s, p, q, t⟩ (.slice a' n' c')] (by kernel_rfl) (by kernel_rfl) ?_
  refine (HP23.out _ a' n' c').mono ?_
  rintro e v12 ⟨rfl, k12⟩
  have Y12 := Y11.then k12
  refine ⟨_, rfl, (HpK.out _).2 Y12, ?_⟩
  simp only [Act.put, List.setIfInBounds_toArray, List.set_cons_succ, List.set_cons_zero, Nat.reduceAdd]
  refine far.farO_stretch pK 1 0 15 e1' e2' e3' (by kernel_rfl) (by kernel_rfl) (fun κ w' hk1 hk2 hC => hC) ?_
  simp only [List.take_succ_cons, List.take_zero, List.drop_succ_cons, List.drop_zero, Nat.reduceAdd]
  repeat (go_big_quiet_step (fail))
  refine wpQuiet_nil ?_
  refine far.farO_enter e1' e2' 12 rfl rfl 24 #[cfgV ⟨h, z, b, r, rd, wr, s, p, q, t⟩ (.slice a len c)] (by kernel_rfl) (by kernel_rfl) ?_
  refine (HD24.out _).mono ?_
  rintro e v13 ⟨rfl, k13⟩
  have Y13 := Y12.then k13
  refine ⟨_, rfl, (HpK.out _).2 Y13, ?_⟩
  simp only [Act.put, List.setIfInBounds_toArray, List.set_cons_succ, List.set_cons_zero, Nat.reduceAdd]
  refine far.farO_stretch pK 4 0 15 e1' e2' e3' (by kernel_rfl) (by kernel_rfl) (fun κ w' hk1 hk2 hC => hC) ?_
  simp only [List.take_succ_cons, List.take_zero, List.drop_succ_cons, List.drop_zero, Nat.reduceAdd]
  repeat (go_big_quiet_step (fail))
  refine wpQuiet_nil ?_
  refine far.farO_enter e1' e2' 13 rfl rfl 25 #[layV ⟨h, z, b, r, rd, wr, s, p, q, t⟩ (.slice a' n' c')] (by kernel_rfl) (by kernel_rfl) ?_
  refine (HP25.out _ a' n' c').mono ?_
  rintro e v14 ⟨rfl, k14⟩
  have Y14 := Y13.then k14
  refine ⟨_, rfl, (HpK.out _).2 Y14, ?_⟩
  simp only [Act.put, List.setIfInBounds_toArray, List.set_cons_succ, List.set_cons_zero, Nat.reduceAdd]
  refine far.farO_stretch pK 1 0 15 e1' e2' e3' (by kernel_rfl) (by kernel_rfl) (fun κ w' hk1 hk2 hC => hC) ?_
  simp only [List.take_succ_cons, List.take_zero, List.drop_succ_cons, List.drop_zero, Nat.reduceAdd]
  repeat (go_big_quiet_step (fail))
  refine wpQuiet_nil ?_
  refine far.farO_enter e1' e2' 14 rfl rfl 26 #[cfgV ⟨h, z, b, r, rd, wr, s, p, q, t⟩ (.slice a len c)] (by kernel_rfl) (by kernel_rfl) ?_
  refine (HD26.out _).mono ?_
  rintro e v15 ⟨rfl, k15⟩
  have Y15 := Y14.then k15
  refine ⟨_, rfl, (HpK.out _).2 Y15, ?_⟩
  simp only [Act.put, List.setIfInBounds_toArray, List.set_cons_succ, List.set_cons_zero, Nat.reduceAdd]
  refine far.farO_stretch pK 2 0 15 e1' e2' e3' (by kernel_rfl) (by kernel_rfl) (fun κ w' hk1 hk2 hC => hC) ?_
  simp only [List.take_succ_cons, List.take_zero, List.drop_succ_cons, List.drop_zero, Nat.reduceAdd]
  repeat (go_big_quiet_step (fail))
  refine wpQuiet_nil ?_
  refine far.farO_nil ?_
  have KY : Hid (Chg no w v15) := KX.out.then Y15
  have HT2 : Hid (Tb gc gl h z b r rd wr s p q t (.slice a len c) (.slice a' n' c') v15) := HT.out.later Y15
  clear HT
  have HT : Hid (Tb gc gl h z b r rd wr s p q t (.slice a len c) (.slice a' n' c') v15) := HT2.out
  clear HT2
  clear HpK Y0 x0 z0 x1 z1 x2 z2 x3 z3 x4 z4 x5 z5 x6 z6 x7 z7 x8 z8 x9 z9 x10 z10 iK KX Y1 k1 Y2 k2 Y3 k3 Y4 k4 Y5 k5 Y6 k6 Y7 k7 Y8 k8 Y9 k9 Y10 k10 Y11 k11 Y12 k12 Y13 k13 Y14 k14 Y15 k15 HP12 HD13 HP14 HD15 HP16 HD17 HP18 HD19 HP20 HP21 HD22 HP23 HD24 HP25 HD26
  clear e1' e2' e3' LP pK
  have hi1 : ¬ 1125899906842624 < i := by omega
  have hj1 : ¬ 1125899906842624 < j := by omega
  have hj3 : decide (1048576 < j) = false := decide_eq_false (by omega)
  go_wp2_with fail
  obtain ⟨pK, hpK⟩ : ∃ pK : World → Prop, ∀ w', pK w' ↔ Chg no v15 w' := ⟨_, fun _ => Iff.rfl⟩
  obtain ⟨x0, x1, x2, x3, x4, x5, x6, x7, x8, x9, x10, iK⟩ := cfg_facts hpK HT.out.box
  obtain ⟨z0, z1, z2, z3, z4, z5, z6, z7, z8, z9, z10⟩ := lay_facts hpK HT.out.lay
  have HpK : Hid (∀ w', pK w' ↔ Chg no v15 w') := hpK
  have Y0 : Chg no v15 v15.drew := (Chg.refl no v15).drew
  clear hpK
  try simp only [List.append_eq, List.cons_append, List.nil_append]
  refine far.region_farM (fun κ w' => pK w') [2, 3, 6, 11, 12, 15, 21, 22, 25, 31, 32, 35, 41, 42, 45, 52, 56, 61, 63] (by kernel_rfl) (by kernel_rfl) ((HpK.out _).2 Y0) ?_
  intro LP e1' e2' e3'
  refine far.farO_stretch pK 2 0 19 e1' e2' e3' (by kernel_rfl) (by kernel_rfl) (fun κ w' hk1 hk2 hC => hC) ?_
  simp only [List.take_succ_cons, List.take_zero, List.drop_succ_cons, List.drop_zero, Nat.reduceAdd]
  repeat (go_big_quiet_step (fail))
  refine wpQuiet_nil ?_
  refine far.farO_enter e1' e2' 0 rfl rfl 28 #[layV ⟨h, z, b, r, rd, wr, s, p, q, t⟩ (.slice a' n' c'), .int .i64 i] (by kernel_rfl) (by kernel_rfl) ?_
  refine (HP28.out _ a' n' c').mono ?_
  rintro e u1 ⟨rfl, k1⟩
  have Y1 := Y0.then k1
  refine ⟨_, rfl, (HpK.out _).2 Y1, ?_⟩
  simp only [Act.put, List.setIfInBounds_toArray, List.set_cons_succ, List.set_cons_zero, Nat.reduceAdd]
  refine far.farO_enter e1' e2' 1 rfl rfl 27 #[.agg #[.int .i64 logu, .int .i64 logv]] (by kernel_rfl) (by kernel_rfl) ?_
  refine (HAlog.out _).mono ?_
  rintro e u2 ⟨rfl, k2⟩
  have Y2 := Y1.then k2
  refine ⟨_, rfl, (HpK.out _).2 Y2, ?_⟩
  simp only [Act.put, List.setIfInBounds_toArray, List.set_cons_succ, List.set_cons_zero, Nat.reduceAdd]
  refine far.farO_stretch pK 2 0 19 e1' e2' e3' (by kernel_rfl) (by kernel_rfl) (fun κ w' hk1 hk2 hC => hC) ?_
  simp only [List.take_succ_cons, List.take_zero, List.drop_succ_cons, List.drop_zero, Nat.reduceAdd]
  repeat (go_big_quiet_step (fail))
  refine wpQuiet_nil ?_
  refine far.farO_enter e1' e2' 2 rfl rfl 29 #[cfgV ⟨h, z, b, r, rd, wr, s, p, q, t⟩ (.slice a len c), .int .i64 i] (by kernel_rfl) (by kernel_rfl) ?_
  refine (HD29.out _).mono ?_
  rintro e u3 ⟨rfl, k3⟩
  have Y3 := Y2.then k3
  refine ⟨_, rfl, (HpK.out _).2 Y3, ?_⟩
  simp only [Act.put, List.setIfInBounds_toArray, List.set_cons_succ, List.set_cons_zero, Nat.reduceAdd]
  refine far.farO_stretch pK 4 0 19 e1' e2' e3' (by kernel_rfl) (by kernel_rfl) (fun κ w' hk1 hk2 hC => hC) ?_
  simp only [List.take_succ_cons, List.take_zero, List.drop_succ_cons, List.drop_zero, Nat.reduceAdd]
  repeat (go_big_quiet_step (fail))
  refine wpQuiet_nil ?_
  refine far.farO_enter e1' e2' 3 rfl rfl 30 #[layV ⟨h, z, b, r, rd, wr, s, p, q, t⟩ (.slice a' n' c'), .int .i64 i] (by kernel_rfl) (by kernel_rfl) ?_
  refine (HP30.out _ a' n' c').mono ?_
  rintro e u4 ⟨rfl, k4⟩
  have Y4 := Y3.then k4
  refine ⟨_, rfl, (HpK.out _).2 Y4, ?_⟩
  simp only [Act.put, List.setIfInBounds_toArray, List.set_cons_succ, List.set_cons_zero, Nat.reduceAdd]
  refine far.farO_enter e1' e2' 4 rfl rfl 27 #[.agg #[.int .i64 clogu, .int .i64 clogv]] (by kernel_rfl) (by kernel_rfl) ?_
  refine (HAclog.out _).mono ?_
  rintro e u5 ⟨rfl, k5⟩
  have Y5 := Y4.then k5
  refine ⟨_, rfl, (HpK.out _).2 Y5, ?_⟩
  simp only [Act.put, List.setIfInBounds_toArray, List.set_cons_succ, List.set_cons_zero, Nat.reduceAdd]
  refine far.farO_stretch pK 2 0 19 e1' e2' e3' (by kernel_rfl) (by kernel_rfl) (fun κ w' hk1 hk2 hC => hC) ?_
  simp only [List.take_succ_cons, List.take_zero, List.drop_succ_cons, List.drop_zero, Nat.reduceAdd]
  repeat (go_big_quiet_step (fail))
  refine wpQuiet_nil ?_
  refine far.farO_enter e1' e2' 5 rfl rfl 31 #[cfgV ⟨h, z, b, r, rd, wr, s, p, q, t⟩ (.slice a len c), .int .i64 i] (by kernel_rfl) (by kernel_rfl) ?_
  refine (HD31.out _).mono ?_
  rintro e u6 ⟨rfl, k6⟩
  have Y6 := Y5.then k6
  refine ⟨_, rfl, (HpK.out _).2 Y6, ?_⟩
  simp only [Act.put, List.setIfInBounds_toArray, List.set_cons_succ, List.set_cons_zero, Nat.reduceAdd]
  refine far.farO_stretch pK 5 0 19 e1' e2' e3' (by kernel_rfl) (by kernel_rfl) (fun κ w' hk1 hk2 hC => hC) ?_
  simp only [List.take_succ_cons, List.take_zero, List.drop_succ_cons, List.drop_zero, Nat.reduceAdd]
  repeat (go_big_quiet_step (fail))
  refine wpQuiet_nil ?_
  refine far.farO_enter e1' e2' 6 rfl rfl 32 #[layV ⟨h, z, b, r, rd, wr, s, p, q, t⟩ (.slice a' n' c'), .int .i64 i] (by kernel_rfl) (by kernel_rfl) ?_
  refine (HP32.out _ a' n' c').mono ?_
  rintro e u7 ⟨rfl, k7⟩
  have Y7 := Y6.then k7
  refine ⟨_, rfl, (HpK.out _).2 Y7, ?_⟩
  simp only [Act.put, List.setIfInBounds_toArray, List.set_cons_succ, List.set_cons_zero, Nat.reduceAdd]
  refine far.farO_enter e1' e2' 7 rfl rfl 27 #[.agg #[.int .i64 deltau, .int .i64 deltav]] (by kernel_rfl) (by kernel_rfl) ?_
  refine (HAdelta.out _).mono ?_
  rintro e u8 ⟨rfl, k8⟩
  have Y8 := Y7.then k8
  refine ⟨_, rfl, (HpK.out _).2 Y8, ?_⟩
  simp only [Act.put, List.setIfInBounds_toArray, List.set_cons_succ, List.set_cons_zero, Nat.reduceAdd]
  refine far.farO_stretch pK 2 0 19 e1' e2' e3' (by kernel_rfl) (by kernel_rfl) (fun κ w' hk1 hk2 hC => hC) ?_
  simp only [List.take_succ_cons, List.take_zero, List.drop_succ_cons, List.drop_zero, Nat.reduceAdd]
  repeat (go_big_quiet_step (fail))
  refine wpQuiet_nil ?_
  refine far.farO_enter e1' e2' 8 rfl rfl 33 #[cfgV ⟨h, z, b, r, rd, wr, s, p, q, t⟩ (.slice a len c), .int .i64 i] (by kernel_rfl) (by kernel_rfl) ?_
  refine (HD33.out _).mono ?_
  rintro e u9 ⟨rfl, k9⟩
  have Y9 := Y8.then k9
  refine ⟨_, rfl, (HpK.out _).2 Y9, ?_⟩
  simp only [Act.put, List.setIfInBounds_toArray, List.set_cons_succ, List.set_cons_zero, Nat.reduceAdd]
  refine far.farO_stretch pK 5 0 19 e1' e2' e3' (by kernel_rfl) (by kernel_rfl) (fun κ w' hk1 hk2 hC => hC) ?_
  simp only [List.take_succ_cons, List.take_zero, List.drop_succ_cons, List.drop_zero, Nat.reduceAdd]
  repeat (go_big_quiet_step (fail))
  refine wpQuiet_nil ?_
  refine far.farO_enter e1' e2' 9 rfl rfl 34 #[layV ⟨h, z, b, r, rd, wr, s, p, q, t⟩ (.slice a' n' c'), .int .i64 i] (by kernel_rfl) (by kernel_rfl) ?_
  refine (HP34.out _ a' n' c').mono ?_
  rintro e u10 ⟨rfl, k10⟩
  have Y10 := Y9.then k10
  refine ⟨_, rfl, (HpK.out _).2 Y10, ?_⟩
  simp only [Act.put, List.setIfInBounds_toArray, List.set_cons_succ, List.set_cons_zero, Nat.reduceAdd]
  refine far.farO_enter e1' e2' 10 rfl rfl 27 #[.agg #[.int .i64 fullu, .int .i64 fullv]] (by kernel_rfl) (by kernel_rfl) ?_
  refine (HAfull.out _).mono ?_
  rintro e u11 ⟨rfl, k11⟩
  have Y11 := Y10.then k11
  refine ⟨_, rfl, (HpK.out _).2 Y11, ?_⟩
  simp only [Act.put, List.setIfInBounds_toArray, List.set_cons_succ, List.set_cons_zero, Nat.reduceAdd]
  refine far.farO_stretch pK 2 0 19 e1' e2' e3' (by kernel_rfl) (by kernel_rfl) (fun κ w' hk1 hk2 hC => hC) ?_
  simp only [List.take_succ_cons, List.take_zero, List.drop_succ_cons, List.drop_zero, Nat.reduceAdd]
  repeat (go_big_quiet_step (fail))
  refine wpQuiet_nil ?_
  refine far.farO_enter e1' e2' 11 rfl rfl 35 #[cfgV ⟨h, z, b, r, rd, wr, s, p, q, t⟩ (.slice a len c), .int .i64 i] (by kernel_rfl) (by kernel_rfl) ?_
  refine (HD35.out _).mono ?_
  rintro e u12 ⟨rfl, k12⟩
  have Y12 := Y11.then k12
  refine ⟨_, rfl, (HpK.out _).2 Y12, ?_⟩
  simp only [Act.put, List.setIfInBounds_toArray, List.set_cons_succ, List.set_cons_zero, Nat.reduceAdd]
  refine far.farO_stretch pK 5 0 19 e1' e2' e3' (by kernel_rfl) (by kernel_rfl) (fun κ w' hk1 hk2 hC => hC) ?_
  simp only [List.take_succ_cons, List.take_zero, List.drop_succ_cons, List.drop_zero, Nat.reduceAdd]
  repeat (go_big_quiet_step (fail))
  refine wpQuiet_nil ?_
  refine far.farO_enter e1' e2' 12 rfl rfl 36 #[layV ⟨h, z, b, r, rd, wr, s, p, q, t⟩ (.slice a' n' c'), .int .i64 i] (by kernel_rfl) (by kernel_rfl) ?_
  refine (HP36.out _ a' n' c').mono ?_
  rintro e u13 ⟨rfl, k13⟩
  have Y13 := Y12.then k13
  refine ⟨_, rfl, (HpK.out _).2 Y13, ?_⟩
  simp only [Act.put, List.setIfInBounds_toArray, List.set_cons_succ, List.set_cons_zero, Nat.reduceAdd]
  refine far.farO_enter e1' e2' 13 rfl rfl 27 #[.agg #[.int .i64 checku, .int .i64 checkv]] (by kernel_rfl) (by kernel_rfl) ?_
  refine (HAcheck.out _).mono ?_
  rintro e u14 ⟨rfl, k14⟩
  have Y14 := Y13.then k14
  refine ⟨_, rfl, (HpK.out _).2 Y14, ?_⟩
  simp only [Act.put, List.setIfInBounds_toArray, List.set_cons_succ, List.set_cons_zero, Nat.reduceAdd]
  refine far.farO_stretch pK 2 0 19 e1' e2' e3' (by kernel_rfl) (by kernel_rfl) (fun κ w' hk1 hk2 hC => hC) ?_
  simp only [List.take_succ_cons, List.take_zero, List.drop_succ_cons, List.drop_zero, Nat.reduceAdd]
  repeat (go_big_quiet_step (fail))
  refine wpQuiet_nil ?_
  refine far.farO_enter e1' e2' 14 rfl rfl 37 #[cfgV ⟨h, z, b, r, rd, wr, s, p, q, t⟩ (.slice a len c), .int .i64 i] (by kernel_rfl) (by kernel_rfl) ?_
  refine (HD37.out _).mono ?_
  rintro e u15 ⟨rfl, k15⟩
  have Y15 := Y14.then k15
  refine ⟨_, rfl, (HpK.out _).2 Y15, ?_⟩
  simp only [Act.put, List.setIfInBounds_toArray, List.set_cons_succ, List.set_cons_zero, Nat.reduceAdd]
  refine far.farO_stretch pK 6 0 19 e1' e2' e3' (by kernel_rfl) (by kernel_rfl) (fun κ w' hk1 hk2 hC => hC) ?_
  simp only [List.take_succ_cons, List.take_zero, List.drop_succ_cons, List.drop_zero, Nat.reduceAdd]
  repeat (go_big_quiet_step (fail))
  refine wpQuiet_nil ?_
  refine far.farO_enter e1' e2' 15 rfl rfl 38 #[layV ⟨h, z, b, r, rd, wr, s, p, q, t⟩ (.slice a' n' c'), .int .i64 i, .int .i64 j] (by kernel_rfl) (by kernel_rfl) ?_
  refine (HP38.out _ a' n' c').mono ?_
  rintro e u16 ⟨rfl, k16⟩
  have Y16 := Y15.then k16
  refine ⟨_, rfl, (HpK.out _).2 Y16, ?_⟩
  simp only [Act.put, List.setIfInBounds_toArray, List.set_cons_succ, List.set_cons_zero, Nat.reduceAdd]
  refine far.farO_stretch pK 3 0 19 e1' e2' e3' (by kernel_rfl) (by kernel_rfl) (fun κ w' hk1 hk2 hC => hC) ?_
  simp only [List.take_succ_cons, List.take_zero, List.drop_succ_cons, List.drop_zero, Nat.reduceAdd]
  repeat (go_big_quiet_step (fail))
  refine wpQuiet_nil ?_
  refine far.farO_enter e1' e2' 16 rfl rfl 39 #[cfgV ⟨h, z, b, r, rd, wr, s, p, q, t⟩ (.slice a len c), .int .i64 i, .int .i64 j] (by kernel_rfl) (by kernel_rfl) ?_
  refine (HD39.out _).mono ?_
  rintro e u17 ⟨rfl, k17⟩
  have Y17 := Y16.then k17
  refine ⟨_, rfl, (HpK.out _).2 Y17, ?_⟩
  simp only [Act.put, List.setIfInBounds_toArray, List.set_cons_succ, List.set_cons_zero, Nat.reduceAdd]
  refine far.farO_stretch pK 4 0 19 e1' e2' e3' (by kernel_rfl) (by kernel_rfl) (fun κ w' hk1 hk2 hC => hC) ?_
  simp only [List.take_succ_cons, List.take_zero, List.drop_succ_cons, List.drop_zero, Nat.reduceAdd]
  repeat (go_big_quiet_step (fail))
  refine wpQuiet_nil ?_
  refine far.farO_enter e1' e2' 17 rfl rfl 40 #[layV ⟨h, z, b, r, rd, wr, s, p, q, t⟩ (.slice a' n' c')] (by kernel_rfl) (by kernel_rfl) ?_
  refine (HP40.out _ a' n' c').mono ?_
  rintro e u18 ⟨rfl, k18⟩
  have Y18 := Y17.then k18
  refine ⟨_, rfl, (HpK.out _).2 Y18, ?_⟩
  simp only [Act.put, List.setIfInBounds_toArray, List.set_cons_succ, List.set_cons_zero, Nat.reduceAdd]
  refine far.farO_stretch pK 1 0 19 e1' e2' e3' (by kernel_rfl) (by kernel_rfl) (fun κ w' hk1 hk2 hC => hC) ?_
  simp only [List.take_succ_cons, List.take_zero, List.drop_succ_cons, List.drop_zero, Nat.reduceAdd]
  repeat (go_big_quiet_step (fail))
  refine wpQuiet_nil ?_
  refine far.farO_enter e1' e2' 18 rfl rfl 41 #[cfgV ⟨h, z, b, r, rd, wr, s, p, q, t⟩ (.slice a len c)] (by kernel_rfl) (by kernel_rfl) ?_
  refine (HD41.out _).mono ?_
  rintro e u19 ⟨rfl, k19⟩
  have Y19 := Y18.then k19
  refine ⟨_, rfl, (HpK.out _).2 Y19, ?_⟩
  simp only [Act.put, List.setIfInBounds_toArray, List.set_cons_succ, List.set_cons_zero, Nat.reduceAdd]
  refine far.farO_stretch pK 2 0 19 e1' e2' e3' (by kernel_rfl) (by kernel_rfl) (fun κ w' hk1 hk2 hC => hC) ?_
  simp only [List.take_succ_cons, List.take_zero, List.drop_succ_cons, List.drop_zero, Nat.reduceAdd]
  repeat (go_big_quiet_step (fail))
  refine wpQuiet_nil ?_
  refine far.farO_nil ?_
  have KZ : Hid (Chg no w u19) := KY.out.then Y19
  have HT2 : Hid (Tb gc gl h z b r rd wr s p q t (.slice a len c) (.slice a' n' c') u19) := HT.out.later Y19
  clear HT
  have HT : Hid (Tb gc gl h z b r rd wr s p q t (.slice a len c) (.slice a' n' c') u19) := HT2.out
  clear HT2
  clear HpK Y0 x0 z0 x1 z1 x2 z2 x3 z3 x4 z4 x5 z5 x6 z6 x7 z7 x8 z8 x9 z9 x10 z10 iK KY Y1 k1 Y2 k2 Y3 k3 Y4 k4 Y5 k5 Y6 k6 Y7 k7 Y8 k8 Y9 k9 Y10 k10 Y11 k11 Y12 k12 Y13 k13 Y14 k14 Y15 k15 Y16 k16 Y17 k17 Y18 k18 Y19 k19 HP28 HD29 HAlog HP30 HD31 HAclog HP32 HD33 HAdelta HP34 HD35 HAfull HP36 HD37 HAcheck HP38 HD39 HP40 HD41 hneq
  clear e1' e2' e3' LP pK
  go_wp2_with fail
  obtain ⟨pK, hpK⟩ : ∃ pK : World → Prop, ∀ w', pK w' ↔ Chg no u19 w' := ⟨_, fun _ => Iff.rfl⟩
  obtain ⟨x0, x1, x2, x3, x4, x5, x6, x7, x8, x9, x10, iK⟩ := cfg_facts hpK HT.out.box
  obtain ⟨z0, z1, z2, z3, z4, z5, z6, z7, z8, z9, z10⟩ := lay_facts hpK HT.out.lay
  have HpK : Hid (∀ w', pK w' ↔ Chg no u19 w') := hpK
  have Y0 : Chg no u19 u19.drew := (Chg.refl no u19).drew
  clear hpK
  refine far.region_farM (fun κ w' => pK w') [0, 4, 7, 17, 21, 27, 29] (by kernel_rfl) (by kernel_rfl) ((HpK.out _).2 Y0) ?_
  intro LP e1' e2' e3'
  refine far.farO_enter e1' e2' 0 rfl rfl 7 #[] (by kernel_rfl) (by kernel_rfl) ?_
  refine (HFi.out _).mono ?_
  rintro e s1 ⟨rfl, k1⟩
  have Y1 := Y0.then k1
  refine ⟨_, rfl, (HpK.out _).2 Y1, ?_⟩
  simp only [Act.put, List.setIfInBounds_toArray, List.set_cons_succ, List.set_cons_zero, Nat.reduceAdd]
  refine far.farO_stretch pK 3 0 7 e1' e2' e3' (by kernel_rfl) (by kernel_rfl) (fun κ w' hk1 hk2 hC => hC) ?_
  simp only [List.take_succ_cons, List.take_zero, List.drop_succ_cons, List.drop_zero, Nat.reduceAdd]
  repeat (go_big_quiet_step (fail))
  refine wpQuiet_nil ?_
  refine far.farO_enter e1' e2' 1 rfl rfl 42 #[layV ⟨h, z, b, r, rd, wr, s, p, q, t⟩ (.slice a' n' c'), .int .i64 i] (by kernel_rfl) (by kernel_rfl) ?_
  refine (HP42.out _ a' n' c').mono ?_
  rintro e s2 ⟨rfl, k2⟩
  have Y2 := Y1.then k2
  refine ⟨_, rfl, (HpK.out _).2 Y2, ?_⟩
  simp only [Act.put, List.setIfInBounds_toArray, List.set_cons_succ, List.set_cons_zero, Nat.reduceAdd]
  refine far.farO_stretch pK 2 0 7 e1' e2' e3' (by kernel_rfl) (by kernel_rfl) (fun κ w' hk1 hk2 hC => hC) ?_
  simp only [List.take_succ_cons, List.take_zero, List.drop_succ_cons, List.drop_zero, Nat.reduceAdd]
  repeat (go_big_quiet_step (fail))
  refine wpQuiet_nil ?_
  refine far.farO_enter e1' e2' 2 rfl rfl 43 #[cfgV ⟨h, z, b, r, rd, wr, s, p, q, t⟩ (.slice a len c), .int .i64 i] (by kernel_rfl) (by kernel_rfl) ?_
  refine (HD43.out _).mono ?_
  rintro e s3 ⟨rfl, k3⟩
  have Y3 := Y2.then k3
  refine ⟨_, rfl, (HpK.out _).2 Y3, ?_⟩
  simp only [Act.put, List.setIfInBounds_toArray, List.set_cons_succ, List.set_cons_zero, Nat.reduceAdd]
  refine far.farO_stretch pK 9 0 7 e1' e2' e3' (by kernel_rfl) (by kernel_rfl) (fun κ w' hk1 hk2 hC => hC) ?_
  simp only [List.take_succ_cons, List.take_zero, List.drop_succ_cons, List.drop_zero, Nat.reduceAdd]
  repeat (go_big_quiet_step (fail))
  refine wpQuiet_nil ?_
  refine far.farO_enter e1' e2' 3 rfl rfl 44 #[layV ⟨h, z, b, r, rd, wr, s, p, q, t⟩ (.slice a' n' c'), .int .i64 i, .int .i64 j] (by kernel_rfl) (by kernel_rfl) ?_
  refine (HP44.out _ a' n' c').mono ?_
  rintro e s4 ⟨rfl, k4⟩
  have Y4 := Y3.then k4
  refine ⟨_, rfl, (HpK.out _).2 Y4, ?_⟩
  simp only [Act.put, List.setIfInBounds_toArray, List.set_cons_succ, List.set_cons_zero, Nat.reduceAdd]
  refine far.farO_stretch pK 3 0 7 e1' e2' e3' (by kernel_rfl) (by kernel_rfl) (fun κ w' hk1 hk2 hC => hC) ?_
  simp only [List.take_succ_cons, List.take_zero, List.drop_succ_cons, List.drop_zero, Nat.reduceAdd]
  repeat (go_big_quiet_step (fail))
  refine wpQuiet_nil ?_
  refine far.farO_enter e1' e2' 4 rfl rfl 45 #[cfgV ⟨h, z, b, r, rd, wr, s, p, q, t⟩ (.slice a len c), .int .i64 i, .int .i64 j] (by kernel_rfl) (by kernel_rfl) ?_
  refine (HD45.out _).mono ?_
  rintro e s5 ⟨rfl, k5⟩
  have Y5 := Y4.then k5
  refine ⟨_, rfl, (HpK.out _).2 Y5, ?_⟩
  simp only [Act.put, List.setIfInBounds_toArray, List.set_cons_succ, List.set_cons_zero, Nat.reduceAdd]
  refine far.farO_stretch pK 5 0 7 e1' e2' e3' (by kernel_rfl) (by kernel_rfl) (fun κ w' hk1 hk2 hC => hC) ?_
  simp only [List.take_succ_cons, List.take_zero, List.drop_succ_cons, List.drop_zero, Nat.reduceAdd]
  repeat (go_big_quiet_step (fail))
  refine wpQuiet_nil ?_
  refine far.farO_enter e1' e2' 5 rfl rfl 46 #[layV ⟨h, z, b, r, rd, wr, s, p, q, t⟩ (.slice a' n' c')] (by kernel_rfl) (by kernel_rfl) ?_
  refine (HP46.out _ a' n' c').mono ?_
  rintro e s6 ⟨rfl, k6⟩
  have Y6 := Y5.then k6
  refine ⟨_, rfl, (HpK.out _).2 Y6, ?_⟩
  simp only [Act.put, List.setIfInBounds_toArray, List.set_cons_succ, List.set_cons_zero, Nat.reduceAdd]
  refine far.farO_stretch pK 1 0 7 e1' e2' e3' (by kernel_rfl) (by kernel_rfl) (fun κ w' hk1 hk2 hC => hC) ?_
  simp only [List.take_succ_cons, List.take_zero, List.drop_succ_cons, List.drop_zero, Nat.reduceAdd]
  repeat (go_big_quiet_step (fail))
  refine wpQuiet_nil ?_
  refine far.farO_enter e1' e2' 6 rfl rfl 47 #[cfgV ⟨h, z, b, r, rd, wr, s, p, q, t⟩ (.slice a len c)] (by kernel_rfl) (by kernel_rfl) ?_
  refine (HD47.out _).mono ?_
  rintro e s7 ⟨rfl, k7⟩
  have Y7 := Y6.then k7
  refine ⟨_, rfl, (HpK.out _).2 Y7, ?_⟩
  simp only [Act.put, List.setIfInBounds_toArray, List.set_cons_succ, List.set_cons_zero, Nat.reduceAdd]
  refine far.farO_stretch pK 11 0 7 e1' e2' e3' (by kernel_rfl) (by kernel_rfl) (fun κ w' hk1 hk2 hC => hC) ?_
  simp only [List.take_succ_cons, List.take_zero, List.drop_succ_cons, List.drop_zero, Nat.reduceAdd]
  repeat (go_big_quiet_step (fail))
  refine wpQuiet_nil ?_
  refine far.farO_nil ?_
  go_wp2
  go_ret
  exact ⟨rfl, (KZ.out.then Y7).below⟩

end Go.Proofs.Ytfhpdcimdeilpaa.tells
