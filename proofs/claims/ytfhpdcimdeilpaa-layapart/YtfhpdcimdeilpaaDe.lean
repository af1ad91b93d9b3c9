/- The document's areas: Log, Clog, Delta, Full, Check. -/
import Derived.Test.YtfhpdcimdeilpaaDt
namespace Go.Proofs.Ytfhpdcimdeilpaa.st
open Go.ChangeShapes Go.WideShapes Go.ChangeAt Go.RowKit Go.Proofs.Ytfhpdcimdeilpaa.hp
set_option linter.unusedVariables false
set_option linter.unusedSimpArgs false

abbrev areaV (a : Int × Int) : Value := .agg #[.int .i64 a.1, .int .i64 a.2]

/-- The areas' beginnings are few. -/
theorem st_le {K : Cf} (hK : okC K) : st1 K = 2 + slotsN K ∧ st1 K ≤ 42 ∧ st2 K ≤ 60 ∧ st3 K ≤ 1110 ∧ st4 K ≤ 1294 ∧ st5 K ≤ 1548 := by
  have sm := small hK
  have hp := hK.p
  obtain ⟨_, hS, hS2⟩ := slots_le hK
  obtain ⟨hb1, hb2⟩ := buckets_le hK
  have d1 : st1 K = 2 + slotsN K := by unfold st1; rw [sm.log, Nat.mul_one]
  have d2 : st2 K = st1 K + 2 * cClog K := rfl
  have d3 : (K.p - 1) * cDelta K ≤ 7 * 75 := Nat.mul_le_mul (by omega) sm.delta.2
  have d3' : st3 K = st2 K + 2 * ((K.p - 1) * cDelta K) := by unfold st3; rw [Nat.mul_assoc]
  have d4 : st4 K = st3 K + 2 * cFull K := rfl
  have d5 : st5 K = st4 K + 2 * bucketsN K := rfl
  have f2 := sm.clog
  have f4 := sm.full
  omega

theorem arr_at0 (v0 v1 v2 v3 v4 v5 : Int) (w : World) : (Instr.index 56 (.agg #[.int .i64 v0, .int .i64 v1, .int .i64 v2, .int .i64 v3, .int .i64 v4, .int .i64 v5]) (.int .i64 0)).run Try.prog w = .ok (.int .i64 v0) w := by kernel_rfl
theorem arr_at1 (v0 v1 v2 v3 v4 v5 : Int) (w : World) : (Instr.index 56 (.agg #[.int .i64 v0, .int .i64 v1, .int .i64 v2, .int .i64 v3, .int .i64 v4, .int .i64 v5]) (.int .i64 1)).run Try.prog w = .ok (.int .i64 v1) w := by kernel_rfl
theorem arr_at2 (v0 v1 v2 v3 v4 v5 : Int) (w : World) : (Instr.index 56 (.agg #[.int .i64 v0, .int .i64 v1, .int .i64 v2, .int .i64 v3, .int .i64 v4, .int .i64 v5]) (.int .i64 2)).run Try.prog w = .ok (.int .i64 v2) w := by kernel_rfl
theorem arr_at3 (v0 v1 v2 v3 v4 v5 : Int) (w : World) : (Instr.index 56 (.agg #[.int .i64 v0, .int .i64 v1, .int .i64 v2, .int .i64 v3, .int .i64 v4, .int .i64 v5]) (.int .i64 3)).run Try.prog w = .ok (.int .i64 v3) w := by kernel_rfl
theorem arr_at4 (v0 v1 v2 v3 v4 v5 : Int) (w : World) : (Instr.index 56 (.agg #[.int .i64 v0, .int .i64 v1, .int .i64 v2, .int .i64 v3, .int .i64 v4, .int .i64 v5]) (.int .i64 4)).run Try.prog w = .ok (.int .i64 v4) w := by kernel_rfl
theorem arr_at5 (v0 v1 v2 v3 v4 v5 : Int) (w : World) : (Instr.index 56 (.agg #[.int .i64 v0, .int .i64 v1, .int .i64 v2, .int .i64 v3, .int .i64 v4, .int .i64 v5]) (.int .i64 5)).run Try.prog w = .ok (.int .i64 v5) w := by kernel_rfl

/-- The box and the answer's cells. -/
structure Ab (w : World) (g g1 : Nat) (h z b r rd wr s p q t : Nat) (tv : Value) (W : World) : Prop where
  box : W.heap[g]? = some (cfgO h z b r rd wr s p q t tv)
  res : W.heap[g1]? = some (.cells #[.int .i64 0, .int .i64 0] 37 (0, 0))
  chg : Chg no w W
  lt : w.heap.size ≤ g ∧ g < g1

theorem Ab.made (w : World) (h z b r rd wr s p q t : Nat) (tv : Value) : Ab w w.heap.size (w.heap.size + 1) h z b r rd wr s p q t tv ((w.alloc (cfgO h z b r rd wr s p q t tv)).alloc (.cells #[.int .i64 0, .int .i64 0] 37)) := by
  refine ⟨((Chg.refl no _).alloc _).heap (heap_alloc_new w _) id, ?_, ((Chg.refl no w).alloc _).alloc _, by omega⟩
  have := heap_alloc_new (w.alloc (cfgO h z b r rd wr s p q t tv)) (.cells #[.int .i64 0, .int .i64 0] 37)
  simpa using this

section
variable {w W W' : World} {g g1 h z b r rd wr s p q t : Nat} {tv : Value}
theorem Ab.later (S : Ab w g g1 h z b r rd wr s p q t tv W) (k : Chg no W W') : Ab w g g1 h z b r rd wr s p q t tv W' := ⟨k.heap S.box id, k.heap S.res id, S.chg.then k, S.lt⟩

theorem Ab.cells (S : Ab w g g1 h z b r rd wr s p q t tv W) : W.cell? ⟨g1, 0, none⟩ = some (.int .i64 0) ∧ W.cell? ⟨g1, 1, none⟩ = some (.int .i64 0) ∧ W.frozen? ⟨g1, 0, none⟩ = false ∧ W.frozen? ⟨g1, 1, none⟩ = false :=
  ⟨(row_cell (xs := [_, _]) S.res 0 _ rfl).1, (row_cell (xs := [_, _]) S.res 1 _ rfl).1, (row_cell (xs := [_, _]) S.res 0 _ rfl).2, (row_cell (xs := [_, _]) S.res 1 _ rfl).2⟩

theorem Ab.stored (S : Ab w g g1 h z b r rd wr s p q t tv W) (u v : Int) : Chg no w ((W.setCell ⟨g1, 0, none⟩ (.int .i64 u)).setCell ⟨g1, 1, none⟩ (.int .i64 v)) ∧ ((W.setCell ⟨g1, 0, none⟩ (.int .i64 u)).setCell ⟨g1, 1, none⟩ (.int .i64 v)).cell? ⟨g1, 0, none⟩ = some (.int .i64 u) ∧ ((W.setCell ⟨g1, 0, none⟩ (.int .i64 u)).setCell ⟨g1, 1, none⟩ (.int .i64 v)).cell? ⟨g1, 1, none⟩ = some (.int .i64 v) := by
  have hl := S.lt
  have r0 := row_set (xs := [.int .i64 0, .int .i64 0]) (t := 37) S.res 0 (.int .i64 u)
  have r1 := row_set (xs := [.int .i64 u, .int .i64 0]) (t := 37) r0 1 (.int .i64 v)
  exact ⟨(S.chg.setCell _ _ (.inr (by show _ ≤ g1; omega))).setCell _ _ (.inr (by show _ ≤ g1; omega)), (row_cell (xs := [.int .i64 u, .int .i64 v]) r1 0 _ rfl).1, (row_cell (xs := [.int .i64 u, .int .i64 v]) r1 1 _ rfl).1⟩
end

theorem rlog_no (w : World) (K : Cf) (hK : okC K) (a : Option Addr) (n c : Nat) (i : Int) (hi : i < 0 ∨ (slotsN K : Int) ≤ i) : Calls Try.prog 29 #[cfgV K (.slice a n c), .int .i64 i] w fun e w' => e = .returned (areaV (0, 0)) ∧ Chg no w w' := by
  have HSl : Hid (∀ W, _) := fun W => rslots_any W K hK a n c
  obtain ⟨A, hA⟩ : ∃ A, slotsN K = A := ⟨_, rfl⟩
  simp only [hA] at hi HSl
  obtain ⟨h, z, b, r, rd, wr, s, p, q, t⟩ := K
  clear hK hA
  have hres : Try.f29.results = #[.cell 4 37] := by kernel_rfl
  by_cases h0 : i < 0
  · clear hi
    go_enter Try.func29, Try.ntmps29
    go_wp2
    refine bodyPost_ret (v := areaV (0, 0)) ?_ rfl ⟨rfl, (((Chg.refl no w).alloc _).alloc _)⟩
    simp only [results, hres]
    go_simp
  · have h1 : (A : Int) ≤ i := by omega
    clear hi
    go_enter Try.func29, Try.ntmps29
    go_wp2_with fail
    obtain ⟨w1, hw1⟩ : ∃ w1, (w.alloc (cfgO h z b r rd wr s p q t (.slice a n c))).alloc (.cells #[.int .i64 0, .int .i64 0] 37) = w1 := ⟨_, rfl⟩
    have HA : Hid (Ab w w.heap.size (w.heap.size + 1) h z b r rd wr s p q t (.slice a n c) w1) := by rw [← hw1]; exact Ab.made w _ _ _ _ _ _ _ _ _ _ _
    rw [hw1]
    obtain ⟨g, hg⟩ : ∃ g, w.heap.size = g := ⟨_, rfl⟩
    rw [hg] at HA ⊢
    obtain ⟨g1, hg1⟩ : ∃ g1, g + 1 = g1 := ⟨_, rfl⟩
    rw [hg1] at HA ⊢
    clear hw1 hg hg1
    refine (HSl.out _).mono ?_
    rintro e w2 ⟨rfl, k2⟩
    have HA2 : Hid (Ab w g g1 h z b r rd wr s p q t (.slice a n c) w2) := HA.out.later k2
    clear HA
    have HA : Hid (Ab w g g1 h z b r rd wr s p q t (.slice a n c) w2) := HA2.out
    clear HA2
    obtain ⟨r0, r1, r2, r3⟩ := HA.out.cells
    clear k2
    go_wp2
    have hres : Try.f29.results = #[.cell 4 37] := by kernel_rfl
    obtain ⟨KZ, q0, q1⟩ := HA.out.stored 0 0
    refine bodyPost_ret (v := areaV (0, 0)) ?_ rfl ⟨rfl, KZ⟩
    obtain ⟨wz, hwz⟩ : ∃ wz, (w2.setCell ⟨g1, 0, none⟩ (.int .i64 0)).setCell ⟨g1, 1, none⟩ (.int .i64 0) = wz := ⟨_, rfl⟩
    rw [hwz] at q0 q1 ⊢
    clear hwz KZ
    simp only [results, hres]
    go_simp

theorem rlog_any (w : World) (K : Cf) (hK : okC K) (a : Option Addr) (n c : Nat) (i : Nat) (hi : i < slotsN K) : Calls Try.prog 29 #[cfgV K (.slice a n c), .int .i64 i] w fun e w' => e = .returned (areaV (((2 + i * cLog K : Nat) : Int), (cLog K : Int))) ∧ Chg no w w' := by
  obtain ⟨_, hS, _⟩ := slots_le hK
  have hsm := (small hK).log
  have HSl : Hid (∀ W, _) := fun W => rslots_any W K hK a n c
  have HCl : Hid (∀ W, Calls Try.prog 65 #[cfgV K (.slice a n c), .int .i64 12] W fun e w' => e = .returned (.int .i64 ((cLog K : Nat) : Int)) ∧ Chg no W w') := fun W => rcells_any W K hK a n c 12 (by omega) (by omega)
  have HSt : Hid (∀ W, _) := fun W => rstarts_any W K hK a n c
  have he : 2 + (i : Int) * ((cLog K : Nat) : Int) = ((2 + i * cLog K : Nat) : Int) := by rw [Int.natCast_add, Int.natCast_mul]; rfl
  have hm : i * cLog K ≤ 40 := by rw [hsm]; omega
  obtain ⟨A, hA⟩ : ∃ A, slotsN K = A := ⟨_, rfl⟩
  obtain ⟨L, hL⟩ : ∃ L, cLog K = L := ⟨_, rfl⟩
  simp only [hA, hL] at hi hS HSl HCl he hm ⊢
  have hLi : (L : Int) ≤ 1 := by omega
  obtain ⟨R, hR⟩ : ∃ R, i * L = R := ⟨_, rfl⟩
  have hiL : (i : Int) * (L : Int) = (R : Int) := by rw [← hR, Int.natCast_mul]
  rw [hR] at hm he ⊢
  rw [hiL] at he
  obtain ⟨T, hT⟩ : ∃ T, 2 + R = T := ⟨_, rfl⟩
  rw [hT] at he ⊢
  have hRi : (R : Int) ≤ 40 := by omega
  have hiA : (i : Int) < A := by omega
  have hii : (i : Int) ≤ 40 := by omega
  obtain ⟨h, z, b, r, rd, wr, s, p, q, t⟩ := K
  clear hK hA hL hS hsm hR hi hm hT
  have ia := arr_at0
  go_enter Try.func29, Try.ntmps29
  go_wp2_with fail
  obtain ⟨w1, hw1⟩ : ∃ w1, (w.alloc (cfgO h z b r rd wr s p q t (.slice a n c))).alloc (.cells #[.int .i64 0, .int .i64 0] 37) = w1 := ⟨_, rfl⟩
  have HA : Hid (Ab w w.heap.size (w.heap.size + 1) h z b r rd wr s p q t (.slice a n c) w1) := by rw [← hw1]; exact Ab.made w _ _ _ _ _ _ _ _ _ _ _
  rw [hw1]
  obtain ⟨g, hg⟩ : ∃ g, w.heap.size = g := ⟨_, rfl⟩
  rw [hg] at HA ⊢
  obtain ⟨g1, hg1⟩ : ∃ g1, g + 1 = g1 := ⟨_, rfl⟩
  rw [hg1] at HA ⊢
  clear hw1 hg hg1
  refine (HSl.out _).mono ?_
  rintro e w2 ⟨rfl, k2⟩
  have HA2 : Hid (Ab w g g1 h z b r rd wr s p q t (.slice a n c) w2) := HA.out.later k2
  clear HA
  have HA : Hid (Ab w g g1 h z b r rd wr s p q t (.slice a n c) w2) := HA2.out
  clear HA2
  obtain ⟨c0, c1, c2, c3, c4, c5, c6, c7, c8, c9, c10⟩ := cfg_cells HA.out.box
  go_wp2_with fail
  refine (HCl.out _).mono ?_
  rintro e w3 ⟨rfl, k3⟩
  clear c0 c1 c2 c3 c4 c5 c6 c7 c8 c9 c10
  have HA2 : Hid (Ab w g g1 h z b r rd wr s p q t (.slice a n c) w3) := HA.out.later k3
  clear HA
  have HA : Hid (Ab w g g1 h z b r rd wr s p q t (.slice a n c) w3) := HA2.out
  clear HA2
  obtain ⟨c0, c1, c2, c3, c4, c5, c6, c7, c8, c9, c10⟩ := cfg_cells HA.out.box
  go_wp2_with fail
  refine (HSt.out _).mono ?_
  rintro e w4 ⟨rfl, k4⟩
  clear c0 c1 c2 c3 c4 c5 c6 c7 c8 c9 c10
  have HA2 : Hid (Ab w g g1 h z b r rd wr s p q t (.slice a n c) w4) := HA.out.later k4
  clear HA
  have HA : Hid (Ab w g g1 h z b r rd wr s p q t (.slice a n c) w4) := HA2.out
  clear HA2
  obtain ⟨r0, r1, r2, r3⟩ := HA.out.cells
  go_wp2
  have hres : Try.f29.results = #[.cell 4 37] := by kernel_rfl
  obtain ⟨KZ, q0, q1⟩ := HA.out.stored (T : Int) (L : Int)
  refine bodyPost_ret (v := areaV ((T : Int), (L : Int))) ?_ rfl ⟨rfl, KZ⟩
  obtain ⟨wz, hwz⟩ : ∃ wz, (w4.setCell ⟨g1, 0, none⟩ (.int .i64 (T : Int))).setCell ⟨g1, 1, none⟩ (.int .i64 (L : Int)) = wz := ⟨_, rfl⟩
  rw [hwz] at q0 q1 ⊢
  clear hwz KZ
  simp only [results, hres]
  go_simp

theorem rclog2_no (w : World) (K : Cf) (a : Option Addr) (n c : Nat) (i : Int) (hi : i < 0) : Calls Try.prog 31 #[cfgV K (.slice a n c), .int .i64 i] w fun e w' => e = .returned (areaV (0, 0)) ∧ Chg no w w' := by
  obtain ⟨h, z, b, r, rd, wr, s, p, q, t⟩ := K
  have hres : Try.f31.results = #[.cell 4 37] := by kernel_rfl
  go_enter Try.func31, Try.ntmps31
  go_wp2
  refine bodyPost_ret (v := areaV (0, 0)) ?_ rfl ⟨rfl, (((Chg.refl no w).alloc _).alloc _)⟩
  simp only [results, hres]
  go_simp

theorem rclog2_any (w : World) (K : Cf) (hK : okC K) (a : Option Addr) (n c : Nat) (i : Nat) : Calls Try.prog 31 #[cfgV K (.slice a n c), .int .i64 i] w fun e w' => e = .returned (areaV (((st1 K + i % 2 * cClog K : Nat) : Int), (cClog K : Int))) ∧ Chg no w w' := by
  have hsm := (small hK).clog
  have hst := st_le hK
  have htt := hK.t
  have HCl : Hid (∀ W, _) := fun W => rclog_any W K hK a n c
  have HCc : Hid (∀ W, Calls Try.prog 65 #[cfgV K (.slice a n c), .int .i64 ((clogN K : Nat) : Int)] W fun e w' => e = .returned (.int .i64 ((cClog K : Nat) : Int)) ∧ Chg no W w') := fun W => rcells_any W K hK a n c (clogN K) (by unfold clogN; omega) (by unfold clogN; omega)
  have HSt : Hid (∀ W, _) := fun W => rstarts_any W K hK a n c
  have hr : (i : Int).tmod 2 = ((i % 2 : Nat) : Int) := rfl
  obtain ⟨m, hm⟩ : ∃ m, i % 2 = m := ⟨_, rfl⟩
  have hm2 : m ≤ 1 := by omega
  obtain ⟨L, hL⟩ : ∃ L, cClog K = L := ⟨_, rfl⟩
  obtain ⟨lc, hlc⟩ : ∃ x, clogN K = x := ⟨_, rfl⟩
  obtain ⟨s1, hs1⟩ : ∃ x, st1 K = x := ⟨_, rfl⟩
  simp only [hL, hlc, hs1, hm] at hsm hst HCl HCc HSt hr ⊢
  have hmL : m * L ≤ 9 := by
    have := Nat.mul_le_mul hm2 hsm.2
    omega
  obtain ⟨R, hR⟩ : ∃ R, m * L = R := ⟨_, rfl⟩
  have hiL : (m : Int) * (L : Int) = (R : Int) := by rw [← hR, Int.natCast_mul]
  rw [hR] at hmL ⊢
  have hRi : (R : Int) ≤ 9 := by omega
  have hs1i : (s1 : Int) ≤ 42 := by omega
  have hmi : (m : Int) ≤ 1 := by omega
  have hLi : (L : Int) ≤ 9 := by omega
  obtain ⟨T, hT⟩ : ∃ T, s1 + R = T := ⟨_, rfl⟩
  have he : (s1 : Int) + (R : Int) = (T : Int) := by omega
  rw [hT]
  have hi0 : ¬ (i : Int) < 0 := by omega
  have ia := arr_at1
  obtain ⟨h, z, b, r, rd, wr, s, p, q, t⟩ := K
  clear hK hL hsm hst htt hlc hs1 hm hR hmL hm2 hT
  go_enter Try.func31, Try.ntmps31
  go_wp2_with fail
  obtain ⟨w1, hw1⟩ : ∃ w1, (w.alloc (cfgO h z b r rd wr s p q t (.slice a n c))).alloc (.cells #[.int .i64 0, .int .i64 0] 37) = w1 := ⟨_, rfl⟩
  have HA : Hid (Ab w w.heap.size (w.heap.size + 1) h z b r rd wr s p q t (.slice a n c) w1) := by rw [← hw1]; exact Ab.made w _ _ _ _ _ _ _ _ _ _ _
  rw [hw1]
  obtain ⟨g, hg⟩ : ∃ g, w.heap.size = g := ⟨_, rfl⟩
  rw [hg] at HA ⊢
  obtain ⟨g1, hg1⟩ : ∃ g1, g + 1 = g1 := ⟨_, rfl⟩
  rw [hg1] at HA ⊢
  clear hw1 hg hg1
  obtain ⟨pK, hpK⟩ : ∃ pK : World → Prop, ∀ w', pK w' ↔ Chg no w1 w' := ⟨_, fun _ => Iff.rfl⟩
  obtain ⟨x0, x1, x2, x3, x4, x5, x6, x7, x8, x9, x10, iK⟩ := cfg_facts hpK HA.out.box
  have HpK : Hid (∀ w', pK w' ↔ Chg no w1 w') := hpK
  have Y0 : Chg no w1 w1.drew := (Chg.refl no w1).drew
  clear hpK
  refine far.region_farM (fun κ w' => pK w') [2, 3] (by kernel_rfl) (by kernel_rfl) ((HpK.out _).2 Y0) ?_
  intro LP e1' e2' e3'
  refine far.farO_stretch pK 2 0 2 e1' e2' e3' (by kernel_rfl) (by kernel_rfl) (fun κ w' hk1 hk2 hC => hC) ?_
  simp only [List.take_succ_cons, List.take_zero, List.drop_succ_cons, List.drop_zero, Nat.reduceAdd]
  repeat (go_big_quiet_step (fail))
  refine wpQuiet_nil ?_
  refine far.farO_enter e1' e2' 0 rfl rfl 26 #[cfgV ⟨h, z, b, r, rd, wr, s, p, q, t⟩ (.slice a n c)] (by kernel_rfl) (by kernel_rfl) ?_
  refine (HCl.out _).mono ?_
  rintro e w2 ⟨rfl, k1⟩
  have Y1 := Y0.then k1
  refine ⟨_, rfl, (HpK.out _).2 Y1, ?_⟩
  simp only [Act.put, List.setIfInBounds_toArray, List.set_cons_succ, List.set_cons_zero, Nat.reduceAdd]
  refine far.farO_enter e1' e2' 1 rfl rfl 65 #[cfgV ⟨h, z, b, r, rd, wr, s, p, q, t⟩ (.slice a n c), .int .i64 (lc : Int)] (by kernel_rfl) (by kernel_rfl) ?_
  refine (HCc.out _).mono ?_
  rintro e w3 ⟨rfl, k2⟩
  have Y2 := Y1.then k2
  refine ⟨_, rfl, (HpK.out _).2 Y2, ?_⟩
  simp only [Act.put, List.setIfInBounds_toArray, List.set_cons_succ, List.set_cons_zero, Nat.reduceAdd]
  refine far.farO_stretch pK 1 0 2 e1' e2' e3' (by kernel_rfl) (by kernel_rfl) (fun κ w' hk1 hk2 hC => hC) ?_
  simp only [List.take_succ_cons, List.take_zero, List.drop_succ_cons, List.drop_zero, Nat.reduceAdd]
  repeat (go_big_quiet_step (fail))
  refine wpQuiet_nil ?_
  refine far.farO_nil ?_
  have HA2 : Hid (Ab w g g1 h z b r rd wr s p q t (.slice a n c) w3) := HA.out.later Y2
  clear HA
  have HA : Hid (Ab w g g1 h z b r rd wr s p q t (.slice a n c) w3) := HA2.out
  clear HA2
  clear HpK Y0 x0 x1 x2 x3 x4 x5 x6 x7 x8 x9 x10 iK Y1 Y2 k1 k2
  clear e1' e2' e3' LP pK
  obtain ⟨c0, c1, c2, c3, c4, c5, c6, c7, c8, c9, c10⟩ := cfg_cells HA.out.box
  go_wp2_with fail
  refine (HSt.out _).mono ?_
  rintro e w4 ⟨rfl, k4⟩
  clear c0 c1 c2 c3 c4 c5 c6 c7 c8 c9 c10
  have HA2 : Hid (Ab w g g1 h z b r rd wr s p q t (.slice a n c) w4) := HA.out.later k4
  clear HA
  have HA : Hid (Ab w g g1 h z b r rd wr s p q t (.slice a n c) w4) := HA2.out
  clear HA2
  obtain ⟨r0, r1, r2, r3⟩ := HA.out.cells
  go_wp2
  have hres : Try.f31.results = #[.cell 4 37] := by kernel_rfl
  obtain ⟨KZ, q0, q1⟩ := HA.out.stored (T : Int) (L : Int)
  refine bodyPost_ret (v := areaV ((T : Int), (L : Int))) ?_ rfl ⟨rfl, KZ⟩
  obtain ⟨wz, hwz⟩ : ∃ wz, (w4.setCell ⟨g1, 0, none⟩ (.int .i64 (T : Int))).setCell ⟨g1, 1, none⟩ (.int .i64 (L : Int)) = wz := ⟨_, rfl⟩
  rw [hwz] at q0 q1 ⊢
  clear hwz KZ
  simp only [results, hres]
  go_simp

theorem rfull2_no (w : World) (K : Cf) (a : Option Addr) (n c : Nat) (i : Int) (hi : i < 0) : Calls Try.prog 35 #[cfgV K (.slice a n c), .int .i64 i] w fun e w' => e = .returned (areaV (0, 0)) ∧ Chg no w w' := by
  obtain ⟨h, z, b, r, rd, wr, s, p, q, t⟩ := K
  have hres : Try.f35.results = #[.cell 4 37] := by kernel_rfl
  go_enter Try.func35, Try.ntmps35
  go_wp2
  refine bodyPost_ret (v := areaV (0, 0)) ?_ rfl ⟨rfl, (((Chg.refl no w).alloc _).alloc _)⟩
  simp only [results, hres]
  go_simp

set_option maxRecDepth 100000 in
set_option maxHeartbeats 4000000 in
theorem rfull2_any (w : World) (K : Cf) (hK : okC K) (a : Option Addr) (n c : Nat) (i : Nat) (hib : i ≤ 4611686018427387904) : Calls Try.prog 35 #[cfgV K (.slice a n c), .int .i64 i] w fun e w' => e = .returned (areaV (((st3 K + i / K.p % 2 * cFull K : Nat) : Int), (cFull K : Int))) ∧ Chg no w w' := by
  have hsm := (small hK).full
  have hst := st_le hK
  have hp := hK.p
  have hb1 := hK.b
  have hs1 := hK.s
  obtain ⟨hk1, hk2⟩ := buckets_le hK
  have e1 : stashN K ≤ 2433 := by unfold stashN; omega
  have HCl : Hid (∀ W, _) := fun W => rfull_any W K hK a n c
  have HCc : Hid (∀ W, Calls Try.prog 65 #[cfgV K (.slice a n c), .int .i64 ((fullN K : Nat) : Int)] W fun e w' => e = .returned (.int .i64 ((cFull K : Nat) : Int)) ∧ Chg no W w') := fun W => rcells_any W K hK a n c (fullN K) (by unfold fullN; omega) (by unfold fullN; omega)
  have HSt : Hid (∀ W, _) := fun W => rstarts_any W K hK a n c
  have hq : (i : Int).tdiv (K.p : Int) = ((i / K.p : Nat) : Int) := rfl
  have hr : ((i / K.p : Nat) : Int).tmod 2 = ((i / K.p % 2 : Nat) : Int) := rfl
  have hdle : i / K.p ≤ i := Nat.div_le_self _ _
  obtain ⟨d, hd⟩ : ∃ d, i / K.p = d := ⟨_, rfl⟩
  rw [hd] at hdle
  have hdI : (d : Int) ≤ 4611686018427387904 := by omega
  have hiI : (i : Int) ≤ 4611686018427387904 := by omega
  clear hdle
  obtain ⟨L, hL⟩ : ∃ L, cFull K = L := ⟨_, rfl⟩
  obtain ⟨lc, hlc⟩ : ∃ x, fullN K = x := ⟨_, rfl⟩
  obtain ⟨s3, hs3⟩ : ∃ x, st3 K = x := ⟨_, rfl⟩
  simp only [hL, hlc, hs3, hd] at hsm hst HCl HCc HSt hq hr ⊢
  obtain ⟨m, hm⟩ : ∃ m, d % 2 = m := ⟨_, rfl⟩
  have hm2 : m ≤ 1 := by omega
  rw [hm] at hr ⊢
  have hmL : m * L ≤ 92 := by
    have := Nat.mul_le_mul hm2 hsm.2
    omega
  obtain ⟨R, hR⟩ : ∃ R, m * L = R := ⟨_, rfl⟩
  have hiL : (m : Int) * (L : Int) = (R : Int) := by rw [← hR, Int.natCast_mul]
  rw [hR] at hmL ⊢
  have hRi : (R : Int) ≤ 92 := by omega
  have hs1i : (s3 : Int) ≤ 1110 := by omega
  have hmi : (m : Int) ≤ 1 := by omega
  have hLi : (L : Int) ≤ 92 := by omega
  obtain ⟨T, hT⟩ : ∃ T, s3 + R = T := ⟨_, rfl⟩
  have he : (s3 : Int) + (R : Int) = (T : Int) := by omega
  rw [hT]
  have hi0 : ¬ (i : Int) < 0 := by omega
  have hp0 : (K.p : Int) ≠ 0 := by omega
  have ia := arr_at3
  obtain ⟨h, z, b, r, rd, wr, s, p, q, t⟩ := K
  try simp only at *
  clear hK hL hsm hst hlc hs3 hm hR hmL hm2 hp hb1 hs1 hk1 hk2 e1 hd hT hib
  go_enter Try.func35, Try.ntmps35
  go_wp2_with fail
  obtain ⟨w1, hw1⟩ : ∃ w1, (w.alloc (cfgO h z b r rd wr s p q t (.slice a n c))).alloc (.cells #[.int .i64 0, .int .i64 0] 37) = w1 := ⟨_, rfl⟩
  have HA : Hid (Ab w w.heap.size (w.heap.size + 1) h z b r rd wr s p q t (.slice a n c) w1) := by rw [← hw1]; exact Ab.made w _ _ _ _ _ _ _ _ _ _ _
  rw [hw1]
  obtain ⟨g, hg⟩ : ∃ g, w.heap.size = g := ⟨_, rfl⟩
  rw [hg] at HA ⊢
  obtain ⟨g1, hg1⟩ : ∃ g1, g + 1 = g1 := ⟨_, rfl⟩
  rw [hg1] at HA ⊢
  clear hw1 hg hg1
  obtain ⟨pK, hpK⟩ : ∃ pK : World → Prop, ∀ w', pK w' ↔ Chg no w1 w' := ⟨_, fun _ => Iff.rfl⟩
  obtain ⟨x0, x1, x2, x3, x4, x5, x6, x7, x8, x9, x10, iK⟩ := cfg_facts hpK HA.out.box
  have HpK : Hid (∀ w', pK w' ↔ Chg no w1 w') := hpK
  have Y0 : Chg no w1 w1.drew := (Chg.refl no w1).drew
  clear hpK
  refine far.region_farM (fun κ w' => pK w') [2, 3] (by kernel_rfl) (by kernel_rfl) ((HpK.out _).2 Y0) ?_
  intro LP e1' e2' e3'
  refine far.farO_stretch pK 2 0 2 e1' e2' e3' (by kernel_rfl) (by kernel_rfl) (fun κ w' hk1 hk2 hC => hC) ?_
  simp only [List.take_succ_cons, List.take_zero, List.drop_succ_cons, List.drop_zero, Nat.reduceAdd]
  repeat (go_big_quiet_step (fail))
  refine wpQuiet_nil ?_
  refine far.farO_enter e1' e2' 0 rfl rfl 24 #[cfgV ⟨h, z, b, r, rd, wr, s, p, q, t⟩ (.slice a n c)] (by kernel_rfl) (by kernel_rfl) ?_
  refine (HCl.out _).mono ?_
  rintro e w2 ⟨rfl, k1⟩
  have Y1 := Y0.then k1
  refine ⟨_, rfl, (HpK.out _).2 Y1, ?_⟩
  simp only [Act.put, List.setIfInBounds_toArray, List.set_cons_succ, List.set_cons_zero, Nat.reduceAdd]
  refine far.farO_enter e1' e2' 1 rfl rfl 65 #[cfgV ⟨h, z, b, r, rd, wr, s, p, q, t⟩ (.slice a n c), .int .i64 (lc : Int)] (by kernel_rfl) (by kernel_rfl) ?_
  refine (HCc.out _).mono ?_
  rintro e w3 ⟨rfl, k2⟩
  have Y2 := Y1.then k2
  refine ⟨_, rfl, (HpK.out _).2 Y2, ?_⟩
  simp only [Act.put, List.setIfInBounds_toArray, List.set_cons_succ, List.set_cons_zero, Nat.reduceAdd]
  refine far.farO_stretch pK 1 0 2 e1' e2' e3' (by kernel_rfl) (by kernel_rfl) (fun κ w' hk1 hk2 hC => hC) ?_
  simp only [List.take_succ_cons, List.take_zero, List.drop_succ_cons, List.drop_zero, Nat.reduceAdd]
  repeat (go_big_quiet_step (fail))
  refine wpQuiet_nil ?_
  refine far.farO_nil ?_
  have HA2 : Hid (Ab w g g1 h z b r rd wr s p q t (.slice a n c) w3) := HA.out.later Y2
  clear HA
  have HA : Hid (Ab w g g1 h z b r rd wr s p q t (.slice a n c) w3) := HA2.out
  clear HA2
  clear HpK Y0 x0 x1 x2 x3 x4 x5 x6 x7 x8 x9 x10 iK Y1 Y2 k1 k2
  clear e1' e2' e3' LP pK
  go_wp2_with fail
  obtain ⟨pK, hpK⟩ : ∃ pK : World → Prop, ∀ w', pK w' ↔ Chg no w3 w' := ⟨_, fun _ => Iff.rfl⟩
  obtain ⟨x0, x1, x2, x3, x4, x5, x6, x7, x8, x9, x10, iK⟩ := cfg_facts hpK HA.out.box
  have HpK : Hid (∀ w', pK w' ↔ Chg no w3 w') := hpK
  have Y0 : Chg no w3 w3.drew := (Chg.refl no w3).drew
  clear hpK
  refine far.region_farM (fun κ w' => κ ≤ 1 → pK w') [1, 13] (by kernel_rfl) (by kernel_rfl) (fun _ => (HpK.out _).2 Y0) ?_
  intro LP e1' e2' e3'
  refine far.farO_stretch pK 1 0 1 e1' e2' e3' (by kernel_rfl) (by kernel_rfl) (fun κ w' hk1 hk2 hC => hC hk2) ?_
  simp only [List.take_succ_cons, List.take_zero, List.drop_succ_cons, List.drop_zero, Nat.reduceAdd]
  repeat (go_big_quiet_step (fail))
  refine wpQuiet_nil ?_
  refine far.farO_enter e1' e2' 0 rfl rfl 66 #[cfgV ⟨h, z, b, r, rd, wr, s, p, q, t⟩ (.slice a n c)] (by kernel_rfl) (by kernel_rfl) ?_
  refine (HSt.out _).mono ?_
  rintro e w4 ⟨rfl, k1⟩
  have Y1 := Y0.then k1
  refine ⟨_, rfl, fun _ => (HpK.out _).2 Y1, ?_⟩
  simp only [Act.put, List.setIfInBounds_toArray, List.set_cons_succ, List.set_cons_zero, Nat.reduceAdd]
  refine far.farO_stretch pK 11 0 1 e1' e2' e3' (by kernel_rfl) (by kernel_rfl) (fun κ w' hk1 hk2 hC => hC hk2) ?_
  simp only [List.take_succ_cons, List.take_zero, List.drop_succ_cons, List.drop_zero, Nat.reduceAdd]
  repeat (go_big_quiet_step (fail))
  refine wpQuiet_nil ?_
  refine far.farO_move e1' e2' 1 rfl rfl (by kernel_rfl) ?_
  obtain ⟨d1, d2, d3, d4⟩ := (HA.out.later Y1).cells
  unfold far.Moves
  go_simp
  refine far.farO_nil ?_
  have HA2 : Hid (Ab w g g1 h z b r rd wr s p q t (.slice a n c) w4) := HA.out.later Y1
  clear HA
  have HA : Hid (Ab w g g1 h z b r rd wr s p q t (.slice a n c) w4) := HA2.out
  clear HA2
  go_wp2
  have hres : Try.f35.results = #[.cell 4 37] := by kernel_rfl
  obtain ⟨KZ, q0, q1⟩ := HA.out.stored (T : Int) (L : Int)
  refine bodyPost_ret (v := areaV ((T : Int), (L : Int))) ?_ rfl ⟨rfl, KZ⟩
  obtain ⟨wz, hwz⟩ : ∃ wz, (w4.setCell ⟨g1, 0, none⟩ (.int .i64 (T : Int))).setCell ⟨g1, 1, none⟩ (.int .i64 (L : Int)) = wz := ⟨_, rfl⟩
  rw [hwz] at q0 q1 ⊢
  clear hwz KZ
  simp only [results, hres]
  go_simp

theorem rdelta2_no (w : World) (K : Cf) (hK : okC K) (a : Option Addr) (n c : Nat) (i : Int) (hi : i < 0 ∨ ∃ k : Nat, i = k ∧ k % K.p = 0) : Calls Try.prog 33 #[cfgV K (.slice a n c), .int .i64 i] w fun e w' => e = .returned (areaV (0, 0)) ∧ Chg no w w' := by
  have hp := hK.p
  obtain ⟨h, z, b, r, rd, wr, s, p, q, t⟩ := K
  try simp only at *
  have hres : Try.f33.results = #[.cell 4 37] := by kernel_rfl
  rcases hi with hi | ⟨k, rfl, hk⟩
  · go_enter Try.func33, Try.ntmps33
    go_wp2
    refine bodyPost_ret (v := areaV (0, 0)) ?_ rfl ⟨rfl, (((Chg.refl no w).alloc _).alloc _)⟩
    simp only [results, hres]
    go_simp
  · have hr : (k : Int).tmod (p : Int) = 0 := by
      have : (k : Int).tmod (p : Int) = ((k % p : Nat) : Int) := rfl
      rw [this, hk]
      rfl
    have hp0 : (p : Int) ≠ 0 := by omega
    have hi0 : ¬ (k : Int) < 0 := by omega
    clear hk hp hK
    go_enter Try.func33, Try.ntmps33
    go_wp2
    refine bodyPost_ret (v := areaV (0, 0)) ?_ rfl ⟨rfl, (((Chg.refl no w).alloc _).alloc _)⟩
    simp only [results, hres]
    go_simp

/-- Where a Delta begins. -/
def dAt (K : Cf) (i : Nat) : Nat := st2 K + (i / K.p % 2 * (K.p - 1) + i % K.p - 1) * cDelta K

set_option maxRecDepth 100000 in
set_option maxHeartbeats 4000000 in
theorem rdelta2_any (w : World) (K : Cf) (hK : okC K) (a : Option Addr) (n c : Nat) (i : Nat) (hi : i % K.p ≠ 0) (hib : i ≤ 4611686018427387904) : Calls Try.prog 33 #[cfgV K (.slice a n c), .int .i64 i] w fun e w' => e = .returned (areaV (((dAt K i : Nat) : Int), (cDelta K : Int))) ∧ Chg no w w' := by
  unfold dAt
  have hsm := (small hK).delta
  have hst := st_le hK
  have hp := hK.p
  have hwr := hK.wr
  have hs1 := hK.s
  obtain ⟨_, hS, _⟩ := slots_le hK
  have e1 : stashN K ≤ 2433 := by unfold stashN; omega
  have HCl : Hid (∀ W, _) := fun W => rdelta_any W K hK a n c
  have HCc : Hid (∀ W, Calls Try.prog 65 #[cfgV K (.slice a n c), .int .i64 ((deltaN K : Nat) : Int)] W fun e w' => e = .returned (.int .i64 ((cDelta K : Nat) : Int)) ∧ Chg no W w') := fun W => rcells_any W K hK a n c (deltaN K) (by unfold deltaN; omega) (by unfold deltaN; omega)
  have HSt : Hid (∀ W, _) := fun W => rstarts_any W K hK a n c
  have hq : (i : Int).tdiv (K.p : Int) = ((i / K.p : Nat) : Int) := rfl
  have hr0 : (i : Int).tmod (K.p : Int) = ((i % K.p : Nat) : Int) := rfl
  have hr : ((i / K.p : Nat) : Int).tmod 2 = ((i / K.p % 2 : Nat) : Int) := rfl
  have hmod := Nat.mod_lt i hp.1
  have hdle : i / K.p ≤ i := Nat.div_le_self _ _
  obtain ⟨d, hd⟩ : ∃ d, i / K.p = d := ⟨_, rfl⟩
  rw [hd] at hdle
  have hdI : (d : Int) ≤ 4611686018427387904 := by omega
  have hiI : (i : Int) ≤ 4611686018427387904 := by omega
  clear hdle
  obtain ⟨m0, hm0⟩ : ∃ m, i % K.p = m := ⟨_, rfl⟩
  obtain ⟨L, hL⟩ : ∃ L, cDelta K = L := ⟨_, rfl⟩
  obtain ⟨lc, hlc⟩ : ∃ x, deltaN K = x := ⟨_, rfl⟩
  obtain ⟨s2, hs2⟩ : ∃ x, st2 K = x := ⟨_, rfl⟩
  simp only [hL, hlc, hs2, hd, hm0] at hi hsm hst HCl HCc HSt hq hr hr0 hmod ⊢
  obtain ⟨m, hm⟩ : ∃ m, d % 2 = m := ⟨_, rfl⟩
  have hm2 : m ≤ 1 := by omega
  rw [hm] at hr ⊢
  have hA : m * (K.p - 1) ≤ 7 := by
    have := Nat.mul_le_mul hm2 (show K.p - 1 ≤ 7 by omega)
    omega
  have hAi : (m : Int) * ((K.p : Int) - 1) = ((m * (K.p - 1) : Nat) : Int) := by rw [Int.natCast_mul, Int.ofNat_sub hp.1]; rfl
  obtain ⟨A, hA'⟩ : ∃ A, m * (K.p - 1) = A := ⟨_, rfl⟩
  rw [hA'] at hA hAi ⊢
  obtain ⟨B, hB⟩ : ∃ B, A + m0 - 1 = B := ⟨_, rfl⟩
  have hBi : (A : Int) + (m0 : Int) - 1 = (B : Int) := by omega
  have hB2 : B ≤ 14 := by omega
  have hmL : B * L ≤ 14 * 75 := Nat.mul_le_mul hB2 hsm.2
  rw [hB]
  obtain ⟨R, hR⟩ : ∃ R, B * L = R := ⟨_, rfl⟩
  have hiL : (B : Int) * (L : Int) = (R : Int) := by rw [← hR, Int.natCast_mul]
  rw [hR] at hmL ⊢
  have hRi : (R : Int) ≤ 1050 := by omega
  have hs2i : (s2 : Int) ≤ 60 := by omega
  have hmi : (m : Int) ≤ 1 := by omega
  have hLi : (L : Int) ≤ 75 := by omega
  have hBi2 : (B : Int) ≤ 14 := by omega
  have hA2 : (A : Int) ≤ 7 := by omega
  have hm02 : (m0 : Int) ≤ 8 := by omega
  obtain ⟨T, hT⟩ : ∃ T, s2 + R = T := ⟨_, rfl⟩
  have he : (s2 : Int) + (R : Int) = (T : Int) := by omega
  rw [hT]
  have hi0 : ¬ (i : Int) < 0 := by omega
  have hp0 : (K.p : Int) ≠ 0 := by omega
  have hp1 : 1 ≤ (K.p : Int) := by omega
  have hp8 : (K.p : Int) ≤ 8 := by omega
  have hm0n : ¬ (m0 : Int) = 0 := by omega
  have ia := arr_at2
  obtain ⟨h, z, b, r, rd, wr, s, p, q, t⟩ := K
  try simp only at *
  clear hK hL hsm hst hlc hs2 hm hR hmL hm2 hp hwr hs1 e1 hd hT hS hmod hm0 hA hA' hB hB2 hi hib
  go_enter Try.func33, Try.ntmps33
  go_wp2_with fail
  obtain ⟨w1, hw1⟩ : ∃ w1, (w.alloc (cfgO h z b r rd wr s p q t (.slice a n c))).alloc (.cells #[.int .i64 0, .int .i64 0] 37) = w1 := ⟨_, rfl⟩
  have HA : Hid (Ab w w.heap.size (w.heap.size + 1) h z b r rd wr s p q t (.slice a n c) w1) := by rw [← hw1]; exact Ab.made w _ _ _ _ _ _ _ _ _ _ _
  rw [hw1]
  obtain ⟨g, hg⟩ : ∃ g, w.heap.size = g := ⟨_, rfl⟩
  rw [hg] at HA ⊢
  obtain ⟨g1, hg1⟩ : ∃ g1, g + 1 = g1 := ⟨_, rfl⟩
  rw [hg1] at HA ⊢
  clear hw1 hg hg1
  obtain ⟨pK, hpK⟩ : ∃ pK : World → Prop, ∀ w', pK w' ↔ Chg no w1 w' := ⟨_, fun _ => Iff.rfl⟩
  obtain ⟨x0, x1, x2, x3, x4, x5, x6, x7, x8, x9, x10, iK⟩ := cfg_facts hpK HA.out.box
  have HpK : Hid (∀ w', pK w' ↔ Chg no w1 w') := hpK
  have Y0 : Chg no w1 w1.drew := (Chg.refl no w1).drew
  clear hpK
  refine far.region_farM (fun κ w' => pK w') [2, 3] (by kernel_rfl) (by kernel_rfl) ((HpK.out _).2 Y0) ?_
  intro LP e1' e2' e3'
  refine far.farO_stretch pK 2 0 2 e1' e2' e3' (by kernel_rfl) (by kernel_rfl) (fun κ w' hk1 hk2 hC => hC) ?_
  simp only [List.take_succ_cons, List.take_zero, List.drop_succ_cons, List.drop_zero, Nat.reduceAdd]
  repeat (go_big_quiet_step (fail))
  refine wpQuiet_nil ?_
  refine far.farO_enter e1' e2' 0 rfl rfl 22 #[cfgV ⟨h, z, b, r, rd, wr, s, p, q, t⟩ (.slice a n c)] (by kernel_rfl) (by kernel_rfl) ?_
  refine (HCl.out _).mono ?_
  rintro e w2 ⟨rfl, k1⟩
  have Y1 := Y0.then k1
  refine ⟨_, rfl, (HpK.out _).2 Y1, ?_⟩
  simp only [Act.put, List.setIfInBounds_toArray, List.set_cons_succ, List.set_cons_zero, Nat.reduceAdd]
  refine far.farO_enter e1' e2' 1 rfl rfl 65 #[cfgV ⟨h, z, b, r, rd, wr, s, p, q, t⟩ (.slice a n c), .int .i64 (lc : Int)] (by kernel_rfl) (by kernel_rfl) ?_
  refine (HCc.out _).mono ?_
  rintro e w3 ⟨rfl, k2⟩
  have Y2 := Y1.then k2
  refine ⟨_, rfl, (HpK.out _).2 Y2, ?_⟩
  simp only [Act.put, List.setIfInBounds_toArray, List.set_cons_succ, List.set_cons_zero, Nat.reduceAdd]
  refine far.farO_stretch pK 1 0 2 e1' e2' e3' (by kernel_rfl) (by kernel_rfl) (fun κ w' hk1 hk2 hC => hC) ?_
  simp only [List.take_succ_cons, List.take_zero, List.drop_succ_cons, List.drop_zero, Nat.reduceAdd]
  repeat (go_big_quiet_step (fail))
  refine wpQuiet_nil ?_
  refine far.farO_nil ?_
  have HA2 : Hid (Ab w g g1 h z b r rd wr s p q t (.slice a n c) w3) := HA.out.later Y2
  clear HA
  have HA : Hid (Ab w g g1 h z b r rd wr s p q t (.slice a n c) w3) := HA2.out
  clear HA2
  clear HpK Y0 x0 x1 x2 x3 x4 x5 x6 x7 x8 x9 x10 iK Y1 Y2 k1 k2
  clear e1' e2' e3' LP pK
  go_wp2_with fail
  obtain ⟨pK, hpK⟩ : ∃ pK : World → Prop, ∀ w', pK w' ↔ Chg no w3 w' := ⟨_, fun _ => Iff.rfl⟩
  obtain ⟨x0, x1, x2, x3, x4, x5, x6, x7, x8, x9, x10, iK⟩ := cfg_facts hpK HA.out.box
  have HpK : Hid (∀ w', pK w' ↔ Chg no w3 w') := hpK
  have Y0 : Chg no w3 w3.drew := (Chg.refl no w3).drew
  clear hpK
  refine far.region_farM (fun κ w' => κ ≤ 1 → pK w') [1, 23] (by kernel_rfl) (by kernel_rfl) (fun _ => (HpK.out _).2 Y0) ?_
  intro LP e1' e2' e3'
  refine far.farO_stretch pK 1 0 1 e1' e2' e3' (by kernel_rfl) (by kernel_rfl) (fun κ w' hk1 hk2 hC => hC hk2) ?_
  simp only [List.take_succ_cons, List.take_zero, List.drop_succ_cons, List.drop_zero, Nat.reduceAdd]
  repeat (go_big_quiet_step (fail))
  refine wpQuiet_nil ?_
  refine far.farO_enter e1' e2' 0 rfl rfl 66 #[cfgV ⟨h, z, b, r, rd, wr, s, p, q, t⟩ (.slice a n c)] (by kernel_rfl) (by kernel_rfl) ?_
  refine (HSt.out _).mono ?_
  rintro e w4 ⟨rfl, k1⟩
  have Y1 := Y0.then k1
  refine ⟨_, rfl, fun _ => (HpK.out _).2 Y1, ?_⟩
  simp only [Act.put, List.setIfInBounds_toArray, List.set_cons_succ, List.set_cons_zero, Nat.reduceAdd]
  refine far.farO_stretch pK 21 0 1 e1' e2' e3' (by kernel_rfl) (by kernel_rfl) (fun κ w' hk1 hk2 hC => hC hk2) ?_
  simp only [List.take_succ_cons, List.take_zero, List.drop_succ_cons, List.drop_zero, Nat.reduceAdd]
  repeat (go_big_quiet_step (fail))
  refine wpQuiet_nil ?_
  refine far.farO_move e1' e2' 1 rfl rfl (by kernel_rfl) ?_
  obtain ⟨d1, d2, d3, d4⟩ := (HA.out.later Y1).cells
  unfold far.Moves
  go_simp
  refine far.farO_nil ?_
  have HA2 : Hid (Ab w g g1 h z b r rd wr s p q t (.slice a n c) w4) := HA.out.later Y1
  clear HA
  have HA : Hid (Ab w g g1 h z b r rd wr s p q t (.slice a n c) w4) := HA2.out
  clear HA2
  go_wp2
  have hres : Try.f33.results = #[.cell 4 37] := by kernel_rfl
  obtain ⟨KZ, q0, q1⟩ := HA.out.stored (T : Int) (L : Int)
  refine bodyPost_ret (v := areaV ((T : Int), (L : Int))) ?_ rfl ⟨rfl, KZ⟩
  obtain ⟨wz, hwz⟩ : ∃ wz, (w4.setCell ⟨g1, 0, none⟩ (.int .i64 (T : Int))).setCell ⟨g1, 1, none⟩ (.int .i64 (L : Int)) = wz := ⟨_, rfl⟩
  rw [hwz] at q0 q1 ⊢
  clear hwz KZ
  simp only [results, hres]
  go_simp

end Go.Proofs.Ytfhpdcimdeilpaa.st
