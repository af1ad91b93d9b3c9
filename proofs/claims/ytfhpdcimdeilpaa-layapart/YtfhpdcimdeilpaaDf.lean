/- The document's areas of any number; Check, Bucket, Total, how much is done. -/
import Derived.Test.YtfhpdcimdeilpaaDe
namespace Go.Proofs.Ytfhpdcimdeilpaa.st
open Go.ChangeShapes Go.WideShapes Go.ChangeAt Go.RowKit Go.Proofs.Ytfhpdcimdeilpaa.hp
set_option linter.unusedVariables false
set_option linter.unusedSimpArgs false

def logA (K : Cf) (i : Int) : Int × Int := if 0 ≤ i ∧ i < (slotsN K : Int) then (((2 + i.toNat * cLog K : Nat) : Int), (cLog K : Int)) else (0, 0)
def clogA (K : Cf) (i : Int) : Int × Int := if 0 ≤ i then (((st1 K + i.toNat % 2 * cClog K : Nat) : Int), (cClog K : Int)) else (0, 0)
def deltaA (K : Cf) (i : Int) : Int × Int := if 0 ≤ i ∧ i.toNat % K.p ≠ 0 then ((dAt K i.toNat : Int), (cDelta K : Int)) else (0, 0)
def fullA (K : Cf) (i : Int) : Int × Int := if 0 ≤ i then (((st3 K + i.toNat / K.p % 2 * cFull K : Nat) : Int), (cFull K : Int)) else (0, 0)
def checkA (K : Cf) (i : Int) : Int × Int := if 0 ≤ i ∧ i.toNat % K.p = 0 then fullA K i else deltaA K i
def bucketA (K : Cf) (b v : Int) : Int := if 0 ≤ b ∧ b < (bucketsN K : Int) ∧ 0 ≤ v ∧ v ≤ 1 then (st4 K : Int) + 2 * b + v else -1

section
variable (w : World) (K : Cf) (hK : okC K) (a : Option Addr) (n c : Nat)
include hK

theorem rlogA (i : Int) : Calls Try.prog 29 #[cfgV K (.slice a n c), .int .i64 i] w fun e w' => e = .returned (areaV (logA K i)) ∧ Chg no w w' := by
  unfold logA
  by_cases h : 0 ≤ i ∧ i < (slotsN K : Int)
  · rw [if_pos h]
    obtain ⟨k, rfl⟩ : ∃ k : Nat, i = k := ⟨i.toNat, by omega⟩
    rw [Int.toNat_natCast]
    exact rlog_any w K hK a n c k (by omega)
  · rw [if_neg h]
    exact rlog_no w K hK a n c i (by omega)

theorem rclogA (i : Int) : Calls Try.prog 31 #[cfgV K (.slice a n c), .int .i64 i] w fun e w' => e = .returned (areaV (clogA K i)) ∧ Chg no w w' := by
  unfold clogA
  by_cases h : 0 ≤ i
  · rw [if_pos h]
    obtain ⟨k, rfl⟩ : ∃ k : Nat, i = k := ⟨i.toNat, by omega⟩
    rw [Int.toNat_natCast]
    exact rclog2_any w K hK a n c k
  · rw [if_neg h]
    exact rclog2_no w K a n c i (by omega)

theorem rdeltaA (i : Int) (hi : i ≤ 4611686018427387904) : Calls Try.prog 33 #[cfgV K (.slice a n c), .int .i64 i] w fun e w' => e = .returned (areaV (deltaA K i)) ∧ Chg no w w' := by
  unfold deltaA
  by_cases h0 : 0 ≤ i
  · obtain ⟨k, rfl⟩ : ∃ k : Nat, i = k := ⟨i.toNat, by omega⟩
    rw [Int.toNat_natCast]
    by_cases h : k % K.p = 0
    · rw [if_neg (fun hh => hh.2 h)]
      exact rdelta2_no w K hK a n c k (.inr ⟨k, rfl, h⟩)
    · rw [if_pos ⟨h0, h⟩]
      exact rdelta2_any w K hK a n c k h (by omega)
  · rw [if_neg (fun hh => h0 hh.1)]
    exact rdelta2_no w K hK a n c i (.inl (by omega))

theorem rfullA (i : Int) (hi : i ≤ 4611686018427387904) : Calls Try.prog 35 #[cfgV K (.slice a n c), .int .i64 i] w fun e w' => e = .returned (areaV (fullA K i)) ∧ Chg no w w' := by
  unfold fullA
  by_cases h : 0 ≤ i
  · rw [if_pos h]
    obtain ⟨k, rfl⟩ : ∃ k : Nat, i = k := ⟨i.toNat, by omega⟩
    rw [Int.toNat_natCast]
    exact rfull2_any w K hK a n c k (by omega)
  · rw [if_neg h]
    exact rfull2_no w K a n c i (by omega)

theorem rcheckA (i : Int) (hi : i ≤ 4611686018427387904) : Calls Try.prog 37 #[cfgV K (.slice a n c), .int .i64 i] w fun e w' => e = .returned (areaV (checkA K i)) ∧ Chg no w w' := by
  have HF : Hid (∀ W, _) := fun W => rfullA W K hK a n c i hi
  have HD : Hid (∀ W, _) := fun W => rdeltaA W K hK a n c i hi
  have hp := hK.p
  have hp0 : (K.p : Int) ≠ 0 := by omega
  unfold checkA
  by_cases h0 : 0 ≤ i
  · obtain ⟨k, rfl⟩ : ∃ k : Nat, i = k := ⟨i.toNat, by omega⟩
    have hr : (k : Int).tmod (K.p : Int) = ((k % K.p : Nat) : Int) := rfl
    rw [Int.toNat_natCast]
    obtain ⟨m, hm⟩ : ∃ m, k % K.p = m := ⟨_, rfl⟩
    rw [hm] at hr ⊢
    by_cases h : m = 0
    · rw [if_pos ⟨h0, h⟩]
      rw [h] at hr
      have hr : (k : Int).tmod (K.p : Int) = 0 := hr
      obtain ⟨u, hu⟩ : ∃ u, (fullA K (k : Int)).1 = u := ⟨_, rfl⟩
      obtain ⟨v, hv⟩ : ∃ v, (fullA K (k : Int)).2 = v := ⟨_, rfl⟩
      simp only [areaV, hu, hv] at HF ⊢
      clear HD
      obtain ⟨h, z, b, r, rd, wr, s, p, q, t⟩ := K
      try simp only at *
      clear hK hu hv hm hp
      go_enter Try.func37, Try.ntmps37
      go_wp2_with fail
      obtain ⟨w1, hw1⟩ : ∃ w1, (w.alloc (cfgO h z b r rd wr s p q t (.slice a n c))).alloc (.cells #[.int .i64 0, .int .i64 0] 37) = w1 := ⟨_, rfl⟩
      have HA : Hid (Ab w w.heap.size (w.heap.size + 1) h z b r rd wr s p q t (.slice a n c) w1) := by rw [← hw1]; exact Ab.made w _ _ _ _ _ _ _ _ _ _ _
      rw [hw1]
      obtain ⟨g, hg⟩ : ∃ g, w.heap.size = g := ⟨_, rfl⟩
      rw [hg] at HA ⊢
      obtain ⟨g1, hg1⟩ : ∃ g1, g + 1 = g1 := ⟨_, rfl⟩
      rw [hg1] at HA ⊢
      clear hw1 hg hg1
      refine (HF.out _).mono ?_
      rintro e w2 ⟨rfl, k2⟩
      have HA2 : Hid (Ab w g g1 h z b r rd wr s p q t (.slice a n c) w2) := HA.out.later k2
      clear HA
      have HA : Hid (Ab w g g1 h z b r rd wr s p q t (.slice a n c) w2) := HA2.out
      clear HA2
      obtain ⟨r0, r1, r2, r3⟩ := HA.out.cells
      clear k2
      go_wp2
      have hres : Try.f37.results = #[.cell 4 37] := by kernel_rfl
      obtain ⟨KZ, q0, q1⟩ := HA.out.stored u v
      refine bodyPost_ret (v := areaV (u, v)) ?_ rfl ⟨rfl, KZ⟩
      obtain ⟨wz, hwz⟩ : ∃ wz, (w2.setCell ⟨g1, 0, none⟩ (.int .i64 u)).setCell ⟨g1, 1, none⟩ (.int .i64 v) = wz := ⟨_, rfl⟩
      rw [hwz] at q0 q1 ⊢
      clear hwz KZ
      simp only [results, hres]
      go_simp
    · rw [if_neg (fun hh => h hh.2)]
      have hmn : ¬ (m : Int) = 0 := by omega
      obtain ⟨u, hu⟩ : ∃ u, (deltaA K (k : Int)).1 = u := ⟨_, rfl⟩
      obtain ⟨v, hv⟩ : ∃ v, (deltaA K (k : Int)).2 = v := ⟨_, rfl⟩
      simp only [areaV, hu, hv] at HD ⊢
      clear HF
      obtain ⟨h, z, b, r, rd, wr, s, p, q, t⟩ := K
      try simp only at *
      clear hK hu hv hm hp
      go_enter Try.func37, Try.ntmps37
      go_wp2_with fail
      obtain ⟨w1, hw1⟩ : ∃ w1, (w.alloc (cfgO h z b r rd wr s p q t (.slice a n c))).alloc (.cells #[.int .i64 0, .int .i64 0] 37) = w1 := ⟨_, rfl⟩
      have HA : Hid (Ab w w.heap.size (w.heap.size + 1) h z b r rd wr s p q t (.slice a n c) w1) := by rw [← hw1]; exact Ab.made w _ _ _ _ _ _ _ _ _ _ _
      rw [hw1]
      obtain ⟨g, hg⟩ : ∃ g, w.heap.size = g := ⟨_, rfl⟩
      rw [hg] at HA ⊢
      obtain ⟨g1, hg1⟩ : ∃ g1, g + 1 = g1 := ⟨_, rfl⟩
      rw [hg1] at HA ⊢
      clear hw1 hg hg1
      refine (HD.out _).mono ?_
      rintro e w2 ⟨rfl, k2⟩
      have HA2 : Hid (Ab w g g1 h z b r rd wr s p q t (.slice a n c) w2) := HA.out.later k2
      clear HA
      have HA : Hid (Ab w g g1 h z b r rd wr s p q t (.slice a n c) w2) := HA2.out
      clear HA2
      obtain ⟨r0, r1, r2, r3⟩ := HA.out.cells
      clear k2
      go_wp2
      have hres : Try.f37.results = #[.cell 4 37] := by kernel_rfl
      obtain ⟨KZ, q0, q1⟩ := HA.out.stored u v
      refine bodyPost_ret (v := areaV (u, v)) ?_ rfl ⟨rfl, KZ⟩
      obtain ⟨wz, hwz⟩ : ∃ wz, (w2.setCell ⟨g1, 0, none⟩ (.int .i64 u)).setCell ⟨g1, 1, none⟩ (.int .i64 v) = wz := ⟨_, rfl⟩
      rw [hwz] at q0 q1 ⊢
      clear hwz KZ
      simp only [results, hres]
      go_simp
  · rw [if_neg (fun hh => h0 hh.1)]
    obtain ⟨u, hu⟩ : ∃ u, (deltaA K i).1 = u := ⟨_, rfl⟩
    obtain ⟨v, hv⟩ : ∃ v, (deltaA K i).2 = v := ⟨_, rfl⟩
    simp only [areaV, hu, hv] at HD ⊢
    clear HF
    obtain ⟨h, z, b, r, rd, wr, s, p, q, t⟩ := K
    try simp only at *
    clear hK hu hv hp
    go_enter Try.func37, Try.ntmps37
    go_wp2_with fail
    obtain ⟨w1, hw1⟩ : ∃ w1, (w.alloc (cfgO h z b r rd wr s p q t (.slice a n c))).alloc (.cells #[.int .i64 0, .int .i64 0] 37) = w1 := ⟨_, rfl⟩
    have HA : Hid (Ab w w.heap.size (w.heap.size + 1) h z b r rd wr s p q t (.slice a n c) w1) := by rw [← hw1]; exact Ab.made w _ _ _ _ _ _ _ _ _ _ _
    rw [hw1]
    obtain ⟨g, hg⟩ : ∃ g, w.heap.size = g := ⟨_, rfl⟩
    rw [hg] at HA ⊢
    obtain ⟨g1, hg1⟩ : ∃ g1, g + 1 = g1 := ⟨_, rfl⟩
    rw [hg1] at HA ⊢
    clear hw1 hg hg1
    refine (HD.out _).mono ?_
    rintro e w2 ⟨rfl, k2⟩
    have HA2 : Hid (Ab w g g1 h z b r rd wr s p q t (.slice a n c) w2) := HA.out.later k2
    clear HA
    have HA : Hid (Ab w g g1 h z b r rd wr s p q t (.slice a n c) w2) := HA2.out
    clear HA2
    obtain ⟨r0, r1, r2, r3⟩ := HA.out.cells
    clear k2
    go_wp2
    have hres : Try.f37.results = #[.cell 4 37] := by kernel_rfl
    obtain ⟨KZ, q0, q1⟩ := HA.out.stored u v
    refine bodyPost_ret (v := areaV (u, v)) ?_ rfl ⟨rfl, KZ⟩
    obtain ⟨wz, hwz⟩ : ∃ wz, (w2.setCell ⟨g1, 0, none⟩ (.int .i64 u)).setCell ⟨g1, 1, none⟩ (.int .i64 v) = wz := ⟨_, rfl⟩
    rw [hwz] at q0 q1 ⊢
    clear hwz KZ
    simp only [results, hres]
    go_simp

theorem rtotalA : Calls Try.prog 41 #[cfgV K (.slice a n c)] w fun e w' => e = .returned (.int .i64 (st5 K : Int)) ∧ Chg no w w' := by
  have HSt : Hid (∀ W, _) := fun W => rstarts_any W K hK a n c
  obtain ⟨s5, h5⟩ : ∃ x, st5 K = x := ⟨_, rfl⟩
  simp only [h5] at HSt ⊢
  have ia := arr_at5
  obtain ⟨h, z, b, r, rd, wr, s, p, q, t⟩ := K
  clear hK h5
  go_enter Try.func41, Try.ntmps41
  go_wp2_with fail
  refine (HSt.out _).mono ?_
  rintro e w2 ⟨rfl, k2⟩
  go_wp2
  go_ret
  exact ⟨rfl, ((Chg.refl no w).alloc _).then k2⟩

theorem rmakeA : Calls Try.prog 47 #[cfgV K (.slice a n c)] w fun e w' => e = .returned (.int .i64 ((5 + cFull K : Nat) : Int)) ∧ Chg no w w' := by
  have hsm := (small hK).full
  have hb1 := hK.b
  have hs1 := hK.s
  obtain ⟨hk1, hk2⟩ := buckets_le hK
  have e1 : stashN K ≤ 2433 := by unfold stashN; omega
  have HCl : Hid (∀ W, _) := fun W => rfull_any W K hK a n c
  have HCc : Hid (∀ W, Calls Try.prog 65 #[cfgV K (.slice a n c), .int .i64 ((fullN K : Nat) : Int)] W fun e w' => e = .returned (.int .i64 ((cFull K : Nat) : Int)) ∧ Chg no W w') := fun W => rcells_any W K hK a n c (fullN K) (by unfold fullN; omega) (by unfold fullN; omega)
  obtain ⟨L, hL⟩ : ∃ L, cFull K = L := ⟨_, rfl⟩
  obtain ⟨lc, hlc⟩ : ∃ x, fullN K = x := ⟨_, rfl⟩
  simp only [hL, hlc] at hsm HCl HCc ⊢
  obtain ⟨T, hT⟩ : ∃ T, 5 + L = T := ⟨_, rfl⟩
  have he : 5 + (L : Int) = (T : Int) := by omega
  have hLi : (L : Int) ≤ 92 := by omega
  rw [hT]
  obtain ⟨h, z, b, r, rd, wr, s, p, q, t⟩ := K
  clear hK hL hlc hsm hb1 hs1 hk1 hk2 e1 hT
  go_enter Try.func47, Try.ntmps47
  go_wp2_with fail
  obtain ⟨w1, hw1⟩ : ∃ w1, w.alloc (cfgO h z b r rd wr s p q t (.slice a n c)) = w1 := ⟨_, rfl⟩
  have hb : w1.heap[w.heap.size]? = some (cfgO h z b r rd wr s p q t (.slice a n c)) := by rw [← hw1]; exact heap_alloc_new w _
  have HK1 : Hid (Chg no w w1) := by rw [← hw1]; exact (Chg.refl no w).alloc _
  rw [hw1]
  obtain ⟨g, hg⟩ : ∃ g, w.heap.size = g := ⟨_, rfl⟩
  rw [hg] at hb ⊢
  clear hw1 hg
  obtain ⟨pK, hpK⟩ : ∃ pK : World → Prop, ∀ w', pK w' ↔ Chg no w1 w' := ⟨_, fun _ => Iff.rfl⟩
  obtain ⟨x0, x1, x2, x3, x4, x5, x6, x7, x8, x9, x10, iK⟩ := cfg_facts hpK hb
  have HpK : Hid (∀ w', pK w' ↔ Chg no w1 w') := hpK
  have Y0 : Chg no w1 w1.drew := (Chg.refl no w1).drew
  clear hpK hb
  refine far.region_farM (fun κ w' => pK w') [2, 3] (by kernel_rfl) (by kernel_rfl) ((HpK.out _).2 Y0) ?_
  intro LP e1' e2' e3'
  refine far.farO_stretch pK 2 0 2 e1' e2' e3' (by kernel_rfl) (by kernel_rfl) (fun κ w' hk1 hk2 hC => hC) ?_
  simp only [List.take_succ_cons, List.take_zero, List.drop_succ_cons, List.drop_zero, Nat.reduceAdd]
  repeat (go_big_quiet_step (fail))
  refine wpQuiet_nil ?_
  refine far.farO_enter e1' e2' 0 rfl rfl 24 #[cfgV ⟨h, z, b, r, rd, wr, s, p, q, t⟩ (.slice a n c)] (by kernel_rfl) (by kernel_rfl) ?_
  refine (HCl.out _).mono ?_
  rintro e w2 ⟨rfl, k1⟩
  have Y1 := Y0.then k1
  refine ⟨_, rfl, (HpK.out _).2 Y1, ?_⟩
  simp only [Act.put, List.setIfInBounds_toArray, List.set_cons_succ, List.set_cons_zero, Nat.reduceAdd]
  refine far.farO_enter e1' e2' 1 rfl rfl 65 #[cfgV ⟨h, z, b, r, rd, wr, s, p, q, t⟩ (.slice a n c), .int .i64 (lc : Int)] (by kernel_rfl) (by kernel_rfl) ?_
  refine (HCc.out _).mono ?_
  rintro e w3 ⟨rfl, k2⟩
  have Y2 := Y1.then k2
  refine ⟨_, rfl, (HpK.out _).2 Y2, ?_⟩
  simp only [Act.put, List.setIfInBounds_toArray, List.set_cons_succ, List.set_cons_zero, Nat.reduceAdd]
  refine far.farO_stretch pK 2 0 2 e1' e2' e3' (by kernel_rfl) (by kernel_rfl) (fun κ w' hk1 hk2 hC => hC) ?_
  simp only [List.take_succ_cons, List.take_zero, List.drop_succ_cons, List.drop_zero, Nat.reduceAdd]
  repeat (go_big_quiet_step (fail))
  refine wpQuiet_nil ?_
  refine far.farO_nil ?_
  go_wp2
  go_ret
  exact ⟨rfl, HK1.out.then Y2⟩

/-- How much a tick does. -/
def tickA (K : Cf) (i : Int) : Int := if 0 ≤ i then (K.r : Int) + 1 + ((slotsN K : Nat) : Int) * ((cLog K : Nat) : Int) + 2 * ((slotsN K : Nat) : Int) * ((K.h : Int) + 1) + (checkA K i).2 + ((cClog K : Nat) : Int) + 3 else 0

omit hK in
theorem rtick_no (i : Int) (hi : i < 0) : Calls Try.prog 43 #[cfgV K (.slice a n c), .int .i64 i] w fun e w' => e = .returned (.int .i64 0) ∧ Chg no w w' := by
  obtain ⟨h, z, b, r, rd, wr, s, p, q, t⟩ := K
  go_enter Try.func43, Try.ntmps43
  go_wp2
  go_ret
  exact ⟨rfl, (Chg.refl no w).alloc _⟩

end

theorem check_le {K : Cf} (hK : okC K) (i : Int) : 0 ≤ (checkA K i).2 ∧ (checkA K i).2 ≤ 92 := by
  have h1 := (small hK).full
  have h2 := (small hK).delta
  unfold checkA fullA deltaA
  split
  · split <;> simp only <;> omega
  · split <;> simp only <;> omega

set_option maxRecDepth 100000 in
set_option maxHeartbeats 4000000 in
theorem rtick_any (w : World) (K : Cf) (hK : okC K) (a : Option Addr) (n c : Nat) (i : Nat) (hi : (i : Int) ≤ 4611686018427387904) : Calls Try.prog 43 #[cfgV K (.slice a n c), .int .i64 (i : Int)] w fun e w' => e = .returned (.int .i64 (tickA K (i : Int))) ∧ Chg no w w' := by
  have sm := small hK
  have hl := check_le hK (i : Int)
  have hh := hK.h
  have hr := hK.r
  have htt := hK.t
  obtain ⟨_, hS, _⟩ := slots_le hK
  have HSl : Hid (∀ W, _) := fun W => rslots_any W K hK a n c
  have HC12 : Hid (∀ W, Calls Try.prog 65 #[cfgV K (.slice a n c), .int .i64 12] W fun e w' => e = .returned (.int .i64 ((cLog K : Nat) : Int)) ∧ Chg no W w') := fun W => rcells_any W K hK a n c 12 (by omega) (by omega)
  have HCh : Hid (∀ W, _) := fun W => rcheckA W K hK a n c (i : Int) hi
  have HCl : Hid (∀ W, _) := fun W => rclog_any W K hK a n c
  have HCc : Hid (∀ W, Calls Try.prog 65 #[cfgV K (.slice a n c), .int .i64 ((clogN K : Nat) : Int)] W fun e w' => e = .returned (.int .i64 ((cClog K : Nat) : Int)) ∧ Chg no W w') := fun W => rcells_any W K hK a n c (clogN K) (by unfold clogN; omega) (by unfold clogN; omega)
  have f1 := sm.log
  have f2 := sm.clog
  have ht : tickA K (i : Int) = (K.r : Int) + 1 + ((slotsN K : Nat) : Int) * ((cLog K : Nat) : Int) + 2 * ((slotsN K : Nat) : Int) * ((K.h : Int) + 1) + (checkA K (i : Int)).2 + ((cClog K : Nat) : Int) + 3 := by
    unfold tickA
    rw [if_pos (by omega)]
  obtain ⟨R, hR⟩ : ∃ R, tickA K (i : Int) = R := ⟨_, rfl⟩
  obtain ⟨A, hA⟩ : ∃ A, slotsN K = A := ⟨_, rfl⟩
  obtain ⟨L, hL⟩ : ∃ L, cLog K = L := ⟨_, rfl⟩
  obtain ⟨M, hM⟩ : ∃ M, cClog K = M := ⟨_, rfl⟩
  obtain ⟨lc, hlc⟩ : ∃ x, clogN K = x := ⟨_, rfl⟩
  obtain ⟨u, hu⟩ : ∃ u, (checkA K (i : Int)).1 = u := ⟨_, rfl⟩
  obtain ⟨v, hv⟩ : ∃ v, (checkA K (i : Int)).2 = v := ⟨_, rfl⟩
  simp only [hR, hA, hL, hM, hlc, areaV, hu, hv] at HSl HC12 HCh HCl HCc f1 f2 ht hl hS ⊢
  have hp : 2 * (A : Int) * ((K.h : Int) + 1) ≤ 560 ∧ 0 ≤ 2 * (A : Int) * ((K.h : Int) + 1) := by
    have e : 2 * (A : Int) * ((K.h : Int) + 1) = ((2 * A * (K.h + 1) : Nat) : Int) := by rw [Int.natCast_mul, Int.natCast_mul]; rfl
    have : 2 * A * (K.h + 1) ≤ 80 * 7 := Nat.mul_le_mul (by omega) (by omega)
    rw [e]
    omega
  have hq : (A : Int) * (L : Int) ≤ 40 ∧ 0 ≤ (A : Int) * (L : Int) := by
    rw [f1]
    omega
  obtain ⟨hp, hp'⟩ := hp
  obtain ⟨hq, hq'⟩ := hq
  obtain ⟨hl, hl'⟩ := hl
  have hri : (K.r : Int) ≤ 4 := by omega
  have hhi : (K.h : Int) ≤ 6 := by omega
  have hAi : (A : Int) ≤ 40 := by omega
  have hMi : (M : Int) ≤ 9 := by omega
  have hi0 : ¬ (i : Int) < 0 := by omega
  have ht' : Hid (R = (K.r : Int) + 1 + (A : Int) * (L : Int) + 2 * (A : Int) * ((K.h : Int) + 1) + v + (M : Int) + 3) := ht
  obtain ⟨h, z, b, r, rd, wr, s, p, q, t⟩ := K
  try simp only at *
  clear hK sm hh hr htt hS f1 f2 hR hA hL hM hlc hu hv ht hi
  have hf : ∀ w, (Instr.field 37 (.agg #[.int .i64 u, .int .i64 v]) 1).run Try.prog w = .ok (.int .i64 v) w := fun _ => by kernel_rfl
  go_enter Try.func43, Try.ntmps43
  go_wp2_with fail
  obtain ⟨w1, hw1⟩ : ∃ w1, w.alloc (cfgO h z b r rd wr s p q t (.slice a n c)) = w1 := ⟨_, rfl⟩
  have hb : w1.heap[w.heap.size]? = some (cfgO h z b r rd wr s p q t (.slice a n c)) := by rw [← hw1]; exact heap_alloc_new w _
  have HK1 : Hid (Chg no w w1) := by rw [← hw1]; exact (Chg.refl no w).alloc _
  rw [hw1]
  obtain ⟨g, hg⟩ : ∃ g, w.heap.size = g := ⟨_, rfl⟩
  rw [hg] at hb ⊢
  clear hw1 hg
  obtain ⟨pK, hpK⟩ : ∃ pK : World → Prop, ∀ w', pK w' ↔ Chg no w1 w' := ⟨_, fun _ => Iff.rfl⟩
  obtain ⟨x0, x1, x2, x3, x4, x5, x6, x7, x8, x9, x10, iK⟩ := cfg_facts hpK hb
  have HpK : Hid (∀ w', pK w' ↔ Chg no w1 w') := hpK
  have Y0 : Chg no w1 w1.drew := (Chg.refl no w1).drew
  clear hpK hb
  refine far.region_farM (fun κ w' => pK w') [4, 6, 10, 17, 22, 23] (by kernel_rfl) (by kernel_rfl) ((HpK.out _).2 Y0) ?_
  intro LP e1' e2' e3'
  refine far.farO_stretch pK 4 0 6 e1' e2' e3' (by kernel_rfl) (by kernel_rfl) (fun κ w' hk1 hk2 hC => hC) ?_
  simp only [List.take_succ_cons, List.take_zero, List.drop_succ_cons, List.drop_zero, Nat.reduceAdd]
  repeat (go_big_quiet_step (fail))
  refine wpQuiet_nil ?_
  refine far.farO_enter e1' e2' 0 rfl rfl 17 #[cfgV ⟨h, z, b, r, rd, wr, s, p, q, t⟩ (.slice a n c)] (by kernel_rfl) (by kernel_rfl) ?_
  refine (HSl.out _).mono ?_
  rintro e w2 ⟨rfl, k1⟩
  have Y1 := Y0.then k1
  refine ⟨_, rfl, (HpK.out _).2 Y1, ?_⟩
  simp only [Act.put, List.setIfInBounds_toArray, List.set_cons_succ, List.set_cons_zero, Nat.reduceAdd]
  refine far.farO_stretch pK 1 0 6 e1' e2' e3' (by kernel_rfl) (by kernel_rfl) (fun κ w' hk1 hk2 hC => hC) ?_
  simp only [List.take_succ_cons, List.take_zero, List.drop_succ_cons, List.drop_zero, Nat.reduceAdd]
  repeat (go_big_quiet_step (fail))
  refine wpQuiet_nil ?_
  refine far.farO_enter e1' e2' 1 rfl rfl 65 #[cfgV ⟨h, z, b, r, rd, wr, s, p, q, t⟩ (.slice a n c), .int .i64 12] (by kernel_rfl) (by kernel_rfl) ?_
  refine (HC12.out _).mono ?_
  rintro e w3 ⟨rfl, k2⟩
  have Y2 := Y1.then k2
  refine ⟨_, rfl, (HpK.out _).2 Y2, ?_⟩
  simp only [Act.put, List.setIfInBounds_toArray, List.set_cons_succ, List.set_cons_zero, Nat.reduceAdd]
  refine far.farO_stretch pK 3 0 6 e1' e2' e3' (by kernel_rfl) (by kernel_rfl) (fun κ w' hk1 hk2 hC => hC) ?_
  simp only [List.take_succ_cons, List.take_zero, List.drop_succ_cons, List.drop_zero, Nat.reduceAdd]
  repeat (go_big_quiet_step (fail))
  refine wpQuiet_nil ?_
  refine far.farO_enter e1' e2' 2 rfl rfl 17 #[cfgV ⟨h, z, b, r, rd, wr, s, p, q, t⟩ (.slice a n c)] (by kernel_rfl) (by kernel_rfl) ?_
  refine (HSl.out _).mono ?_
  rintro e w4 ⟨rfl, k3⟩
  have Y3 := Y2.then k3
  refine ⟨_, rfl, (HpK.out _).2 Y3, ?_⟩
  simp only [Act.put, List.setIfInBounds_toArray, List.set_cons_succ, List.set_cons_zero, Nat.reduceAdd]
  refine far.farO_stretch pK 6 0 6 e1' e2' e3' (by kernel_rfl) (by kernel_rfl) (fun κ w' hk1 hk2 hC => hC) ?_
  simp only [List.take_succ_cons, List.take_zero, List.drop_succ_cons, List.drop_zero, Nat.reduceAdd]
  repeat (go_big_quiet_step (fail))
  refine wpQuiet_nil ?_
  refine far.farO_enter e1' e2' 3 rfl rfl 37 #[cfgV ⟨h, z, b, r, rd, wr, s, p, q, t⟩ (.slice a n c), .int .i64 (i : Int)] (by kernel_rfl) (by kernel_rfl) ?_
  refine (HCh.out _).mono ?_
  rintro e w5 ⟨rfl, k4⟩
  have Y4 := Y3.then k4
  refine ⟨_, rfl, (HpK.out _).2 Y4, ?_⟩
  simp only [Act.put, List.setIfInBounds_toArray, List.set_cons_succ, List.set_cons_zero, Nat.reduceAdd]
  refine far.farO_stretch pK 4 0 6 e1' e2' e3' (by kernel_rfl) (by kernel_rfl) (fun κ w' hk1 hk2 hC => hC) ?_
  simp only [List.take_succ_cons, List.take_zero, List.drop_succ_cons, List.drop_zero, Nat.reduceAdd]
  repeat (go_big_quiet_step (fail))
  refine wpQuiet_nil ?_
  refine far.farO_enter e1' e2' 4 rfl rfl 26 #[cfgV ⟨h, z, b, r, rd, wr, s, p, q, t⟩ (.slice a n c)] (by kernel_rfl) (by kernel_rfl) ?_
  refine (HCl.out _).mono ?_
  rintro e w6 ⟨rfl, k5⟩
  have Y5 := Y4.then k5
  refine ⟨_, rfl, (HpK.out _).2 Y5, ?_⟩
  simp only [Act.put, List.setIfInBounds_toArray, List.set_cons_succ, List.set_cons_zero, Nat.reduceAdd]
  refine far.farO_enter e1' e2' 5 rfl rfl 65 #[cfgV ⟨h, z, b, r, rd, wr, s, p, q, t⟩ (.slice a n c), .int .i64 (lc : Int)] (by kernel_rfl) (by kernel_rfl) ?_
  refine (HCc.out _).mono ?_
  rintro e w7 ⟨rfl, k6⟩
  have Y6 := Y5.then k6
  refine ⟨_, rfl, (HpK.out _).2 Y6, ?_⟩
  simp only [Act.put, List.setIfInBounds_toArray, List.set_cons_succ, List.set_cons_zero, Nat.reduceAdd]
  refine far.farO_stretch pK 3 0 6 e1' e2' e3' (by kernel_rfl) (by kernel_rfl) (fun κ w' hk1 hk2 hC => hC) ?_
  simp only [List.take_succ_cons, List.take_zero, List.drop_succ_cons, List.drop_zero, Nat.reduceAdd]
  repeat (go_big_quiet_step (fail))
  refine wpQuiet_nil ?_
  refine far.farO_nil ?_
  go_wp2
  go_ret
  exact ⟨by first | exact ret_int ht'.out.symm | (rw [ht'.out]), HK1.out.then Y6⟩

end Go.Proofs.Ytfhpdcimdeilpaa.st
