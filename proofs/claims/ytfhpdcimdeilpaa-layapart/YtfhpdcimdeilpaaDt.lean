/- Where the areas begin: the document's starts. -/
import Derived.Test.YtfhpdcimdeilpaaDb
namespace Go.Proofs.Ytfhpdcimdeilpaa.st
open Go.ChangeShapes Go.WideShapes Go.ChangeAt Go.RowKit Go.Proofs.Ytfhpdcimdeilpaa.hp
set_option linter.unusedVariables false
set_option linter.unusedSimpArgs false

def cLog (K : Cf) : Nat := clN 12 (payN K)
def cClog (K : Cf) : Nat := clN (clogN K) (payN K)
def cDelta (K : Cf) : Nat := clN (deltaN K) (payN K)
def cFull (K : Cf) : Nat := clN (fullN K) (payN K)
def st1 (K : Cf) : Nat := 2 + slotsN K * cLog K
def st2 (K : Cf) : Nat := st1 K + 2 * cClog K
def st3 (K : Cf) : Nat := st2 K + 2 * (K.p - 1) * cDelta K
def st4 (K : Cf) : Nat := st3 K + 2 * cFull K
def st5 (K : Cf) : Nat := st4 K + 2 * bucketsN K

theorem cl_le {len pay m : Nat} (hp : 38 ≤ pay) (h : 1 ≤ len) (h2 : len ≤ 38 * m) : 1 ≤ clN len pay ∧ clN len pay ≤ m := by
  unfold clN
  constructor
  · exact (Nat.le_div_iff_mul_le (by omega)).2 (by omega)
  · have h1 : 38 * m ≤ pay * m := Nat.mul_le_mul_right m hp
    have h3 : (len + pay - 1) / pay < m + 1 := (Nat.div_lt_iff_lt_mul (by omega)).2 (by rw [Nat.add_mul, Nat.one_mul, Nat.mul_comm m]; omega)
    omega

structure Small (K : Cf) : Prop where
  log : cLog K = 1
  clog : 1 ≤ cClog K ∧ cClog K ≤ 9
  delta : 1 ≤ cDelta K ∧ cDelta K ≤ 75
  full : 1 ≤ cFull K ∧ cFull K ≤ 92

theorem small {K : Cf} (hK : okC K) : Small K := by
  have hp := pay_le hK
  have hs := hK.s
  have hw := hK.wr
  have hb := hK.b
  have ht := hK.t
  obtain ⟨_, hS, hS2⟩ := slots_le hK
  obtain ⟨hb1, hb2⟩ := buckets_le hK
  have e1 : stashN K ≤ 2433 := by unfold stashN; omega
  refine ⟨?_, ?_, ?_, ?_⟩
  · have := cl_le (len := 12) (m := 1) hp.1 (by omega) (by omega)
    unfold cLog
    omega
  · exact cl_le hp.1 (by unfold clogN; omega) (by unfold clogN; omega)
  · exact cl_le hp.1 (by unfold deltaN; omega) (by unfold deltaN; omega)
  · exact cl_le hp.1 (by unfold fullN; omega) (by unfold fullN; omega)

abbrev arr6 (v0 v1 v2 v3 v4 v5 : Int) : Obj := .cells #[.int .i64 v0, .int .i64 v1, .int .i64 v2, .int .i64 v3, .int .i64 v4, .int .i64 v5] 56

theorem arr_facts {pK : World → Prop} {w1 : World} {g : Nat} {v0 v1 v2 v3 v4 v5 : Int} (hpK : ∀ w', pK w' ↔ Chg no w1 w') (hb : w1.heap[g]? = some (arr6 v0 v1 v2 v3 v4 v5)) :
    (∀ x : far.InC pK, x.w.cell? ⟨g, 0, none⟩ = some (.int .i64 v0)) ∧ (∀ x : far.InC pK, x.w.cell? ⟨g, 1, none⟩ = some (.int .i64 v1)) ∧ (∀ x : far.InC pK, x.w.cell? ⟨g, 2, none⟩ = some (.int .i64 v2)) ∧ (∀ x : far.InC pK, x.w.cell? ⟨g, 3, none⟩ = some (.int .i64 v3)) ∧ (∀ x : far.InC pK, x.w.cell? ⟨g, 4, none⟩ = some (.int .i64 v4)) ∧ (∀ x : far.InC pK, x.w.cell? ⟨g, 5, none⟩ = some (.int .i64 v5)) :=
  have xB : ∀ x : far.InC pK, x.w.heap[g]? = some (arr6 v0 v1 v2 v3 v4 v5) := fun x => ((hpK _).1 x.h).heap hb id
  ⟨fun x => (row_cell (xB x) 0 _ rfl).1, fun x => (row_cell (xB x) 1 _ rfl).1, fun x => (row_cell (xB x) 2 _ rfl).1, fun x => (row_cell (xB x) 3 _ rfl).1, fun x => (row_cell (xB x) 4 _ rfl).1, fun x => (row_cell (xB x) 5 _ rfl).1⟩

theorem arr_cells {W : World} {g : Nat} {v0 v1 v2 v3 v4 v5 : Int} (hb : W.heap[g]? = some (arr6 v0 v1 v2 v3 v4 v5)) :
    W.cell? ⟨g, 0, none⟩ = some (.int .i64 v0) ∧ W.cell? ⟨g, 1, none⟩ = some (.int .i64 v1) ∧ W.cell? ⟨g, 2, none⟩ = some (.int .i64 v2) ∧ W.cell? ⟨g, 3, none⟩ = some (.int .i64 v3) ∧ W.cell? ⟨g, 4, none⟩ = some (.int .i64 v4) ∧ W.cell? ⟨g, 5, none⟩ = some (.int .i64 v5) :=
  ⟨(row_cell hb 0 _ rfl).1, (row_cell hb 1 _ rfl).1, (row_cell hb 2 _ rfl).1, (row_cell hb 3 _ rfl).1, (row_cell hb 4 _ rfl).1, (row_cell hb 5 _ rfl).1⟩

theorem arr_thaw {W : World} {g : Nat} {v0 v1 v2 v3 v4 v5 : Int} (hb : W.heap[g]? = some (arr6 v0 v1 v2 v3 v4 v5)) :
    W.frozen? ⟨g, 0, none⟩ = false ∧ W.frozen? ⟨g, 1, none⟩ = false ∧ W.frozen? ⟨g, 2, none⟩ = false ∧ W.frozen? ⟨g, 3, none⟩ = false ∧ W.frozen? ⟨g, 4, none⟩ = false ∧ W.frozen? ⟨g, 5, none⟩ = false :=
  ⟨(row_cell hb 0 _ rfl).2, (row_cell hb 1 _ rfl).2, (row_cell hb 2 _ rfl).2, (row_cell hb 3 _ rfl).2, (row_cell hb 4 _ rfl).2, (row_cell hb 5 _ rfl).2⟩

/-- The box, the answer's cells, the array. -/
structure Sv (w : World) (g g1 g2 : Nat) (h z b r rd wr s p q t : Nat) (tv : Value) (v0 v1 v2 v3 v4 v5 : Int) (W : World) : Prop where
  box : W.heap[g]? = some (cfgO h z b r rd wr s p q t tv)
  res : W.heap[g1]? = some (arr6 0 0 0 0 0 0)
  arr : W.heap[g2]? = some (arr6 v0 v1 v2 v3 v4 v5)
  chg : Chg no w W
  lt : w.heap.size ≤ g ∧ g < g1 ∧ g1 < g2

section
variable {w W W' : World} {g g1 g2 h z b r rd wr s p q t : Nat} {tv : Value} {v0 v1 v2 v3 v4 v5 : Int}
theorem Sv.later (S : Sv w g g1 g2 h z b r rd wr s p q t tv v0 v1 v2 v3 v4 v5 W) (k : Chg no W W') : Sv w g g1 g2 h z b r rd wr s p q t tv v0 v1 v2 v3 v4 v5 W' :=
  ⟨k.heap S.box id, k.heap S.res id, k.heap S.arr id, S.chg.then k, S.lt⟩

theorem Sv.put (S : Sv w g g1 g2 h z b r rd wr s p q t tv v0 v1 v2 v3 v4 v5 W) (i : Nat) (u : Int) {u0 u1 u2 u3 u4 u5 : Int} (e : (#[Value.int .i64 v0, .int .i64 v1, .int .i64 v2, .int .i64 v3, .int .i64 v4, .int .i64 v5].toList.set i (.int .i64 u)).toArray = #[.int .i64 u0, .int .i64 u1, .int .i64 u2, .int .i64 u3, .int .i64 u4, .int .i64 u5]) : Sv w g g1 g2 h z b r rd wr s p q t tv u0 u1 u2 u3 u4 u5 (W.setCell ⟨g2, i, none⟩ (.int .i64 u)) := by
  have kk : Chg (fun k => k = g2) W (W.setCell ⟨g2, i, none⟩ (.int .i64 u)) := (Chg.refl _ W).setCell _ _ (.inl rfl)
  have h1 := S.lt
  refine ⟨kk.heap S.box (by omega), kk.heap S.res (by omega), ?_, S.chg.setCell _ _ (.inr (by show _ ≤ g2; omega)), S.lt⟩
  have := row_set (xs := [Value.int .i64 v0, .int .i64 v1, .int .i64 v2, .int .i64 v3, .int .i64 v4, .int .i64 v5]) (t := 56) S.arr i (.int .i64 u)
  rw [this]
  simp only at e
  rw [e]
end

set_option maxRecDepth 100000 in
set_option maxHeartbeats 8000000 in
theorem rstarts_any (w : World) (K : Cf) (hK : okC K) (a : Option Addr) (n c : Nat) : Calls Try.prog 66 #[cfgV K (.slice a n c)] w fun e w' => e = .returned (.agg #[.int .i64 2, .int .i64 (st1 K : Nat), .int .i64 (st2 K : Nat), .int .i64 (st3 K : Nat), .int .i64 (st4 K : Nat), .int .i64 (st5 K : Nat)]) ∧ Chg no w w' := by
  have sm := small hK
  have hp := hK.p
  obtain ⟨_, hS, hS2⟩ := slots_le hK
  obtain ⟨hb1, hb2⟩ := buckets_le hK
  have HSl : Hid (∀ W, _) := fun W => rslots_any W K hK a n c
  have HCl : Hid (∀ W, _) := fun W => rclog_any W K hK a n c
  have HDl : Hid (∀ W, _) := fun W => rdelta_any W K hK a n c
  have HFl : Hid (∀ W, _) := fun W => rfull_any W K hK a n c
  have HB : Hid (∀ W, Calls Try.prog 61 #[.int .i64 (K.h : Int)] W fun e w' => e = .returned (.int .i64 ((bucketsN K : Nat) : Int)) ∧ Chg no W w') := fun W => (rbuckets_any W K.h hK.h).mono fun e w' h => ⟨h.1, by rw [h.2]; exact Chg.refl no W⟩
  have e1 : stashN K ≤ 2433 := by have := hK.s; unfold stashN; omega
  have hwr := hK.wr
  have hbb := hK.b
  have htt := hK.t
  have HC12 : Hid (∀ W, Calls Try.prog 65 #[cfgV K (.slice a n c), .int .i64 12] W fun e w' => e = .returned (.int .i64 ((cLog K : Nat) : Int)) ∧ Chg no W w') := fun W => rcells_any W K hK a n c 12 (by omega) (by omega)
  have HCcl : Hid (∀ W, Calls Try.prog 65 #[cfgV K (.slice a n c), .int .i64 ((clogN K : Nat) : Int)] W fun e w' => e = .returned (.int .i64 ((cClog K : Nat) : Int)) ∧ Chg no W w') := fun W => rcells_any W K hK a n c (clogN K) (by unfold clogN; omega) (by unfold clogN; omega)
  have HCde : Hid (∀ W, Calls Try.prog 65 #[cfgV K (.slice a n c), .int .i64 ((deltaN K : Nat) : Int)] W fun e w' => e = .returned (.int .i64 ((cDelta K : Nat) : Int)) ∧ Chg no W w') := fun W => rcells_any W K hK a n c (deltaN K) (by unfold deltaN; omega) (by unfold deltaN; omega)
  have HCfu : Hid (∀ W, Calls Try.prog 65 #[cfgV K (.slice a n c), .int .i64 ((fullN K : Nat) : Int)] W fun e w' => e = .returned (.int .i64 ((cFull K : Nat) : Int)) ∧ Chg no W w') := fun W => rcells_any W K hK a n c (fullN K) (by unfold fullN; omega) (by unfold fullN; omega)
  have d1 : st1 K = 2 + slotsN K := by unfold st1; rw [sm.log, Nat.mul_one]
  have d2 : st2 K = st1 K + 2 * cClog K := rfl
  have d3 : (K.p - 1) * cDelta K ≤ 7 * 75 := Nat.mul_le_mul (by omega) sm.delta.2
  have d3' : st3 K = st2 K + 2 * ((K.p - 1) * cDelta K) := by unfold st3; rw [Nat.mul_assoc]
  have d4 : st4 K = st3 K + 2 * cFull K := rfl
  have d5 : st5 K = st4 K + 2 * bucketsN K := rfl
  have f1 := sm.log
  have f2 := sm.clog
  have f3 := sm.delta
  have f4 := sm.full
  have g1 : (2 : Int) + ((slotsN K : Nat) : Int) * ((cLog K : Nat) : Int) = ((st1 K : Nat) : Int) := by rw [f1]; omega
  have g2 : ((st1 K : Nat) : Int) + 2 * ((cClog K : Nat) : Int) = ((st2 K : Nat) : Int) := by omega
  have g4 : ((st3 K : Nat) : Int) + 2 * ((cFull K : Nat) : Int) = ((st4 K : Nat) : Int) := by omega
  have g5 : ((st4 K : Nat) : Int) + 2 * ((bucketsN K : Nat) : Int) = ((st5 K : Nat) : Int) := by omega
  obtain ⟨M, hM⟩ : ∃ M, (K.p - 1) * cDelta K = M := ⟨_, rfl⟩
  have g3 : 2 * ((K.p : Int) - 1) * ((cDelta K : Nat) : Int) = 2 * (M : Int) := by
    rw [← hM, Int.natCast_mul, Int.mul_assoc, Int.ofNat_sub hp.1]
    rfl
  rw [hM] at d3 d3'
  have g3' : ((st2 K : Nat) : Int) + 2 * (M : Int) = ((st3 K : Nat) : Int) := by omega
  obtain ⟨A, hA⟩ : ∃ A, slotsN K = A := ⟨_, rfl⟩
  obtain ⟨B, hB⟩ : ∃ B, bucketsN K = B := ⟨_, rfl⟩
  obtain ⟨L1, h1⟩ : ∃ x, cLog K = x := ⟨_, rfl⟩
  obtain ⟨L2, h2⟩ : ∃ x, cClog K = x := ⟨_, rfl⟩
  obtain ⟨L3, h3⟩ : ∃ x, cDelta K = x := ⟨_, rfl⟩
  obtain ⟨L4, h4⟩ : ∃ x, cFull K = x := ⟨_, rfl⟩
  obtain ⟨s1, k1⟩ : ∃ x, st1 K = x := ⟨_, rfl⟩
  obtain ⟨s2, k2⟩ : ∃ x, st2 K = x := ⟨_, rfl⟩
  obtain ⟨s3, k3⟩ : ∃ x, st3 K = x := ⟨_, rfl⟩
  obtain ⟨s4, k4⟩ : ∃ x, st4 K = x := ⟨_, rfl⟩
  obtain ⟨s5, k5⟩ : ∃ x, st5 K = x := ⟨_, rfl⟩
  obtain ⟨lc, l1⟩ : ∃ x, clogN K = x := ⟨_, rfl⟩
  obtain ⟨ld, l2⟩ : ∃ x, deltaN K = x := ⟨_, rfl⟩
  obtain ⟨lf, l3⟩ : ∃ x, fullN K = x := ⟨_, rfl⟩
  simp only [hA, hB, h1, h2, h3, h4, k1, k2, k3, k4, k5, l1, l2, l3] at HSl HCl HDl HFl HB HC12 HCcl HCde HCfu d1 d2 d3 d3' d4 d5 f1 f2 f3 f4 g1 g2 g3 g3' g4 g5 hS hb2 ⊢
  have j1 : (A : Int) * (L1 : Int) ≤ 40 := by rw [f1]; omega
  have j1' : 0 ≤ (A : Int) * (L1 : Int) := by rw [f1]; omega
  have j2 : (s1 : Int) ≤ 42 := by omega
  have j3 : (L2 : Int) ≤ 9 := by omega
  have j4 : (L3 : Int) ≤ 75 := by omega
  have j5 : (L4 : Int) ≤ 92 := by omega
  have j6 : (s2 : Int) ≤ 60 := by omega
  have j7 : (s3 : Int) ≤ 1110 := by omega
  have j8 : (s4 : Int) ≤ 1294 := by omega
  have j9 : (s5 : Int) ≤ 1548 := by omega
  have j10 : (M : Int) ≤ 525 := by omega
  have j11 : (B : Int) ≤ 127 := by omega
  have j12 : (A : Int) ≤ 40 := by omega
  have j13 : (L1 : Int) ≤ 1 := by omega
  have j14 : 1 ≤ (K.p : Int) ∧ (K.p : Int) ≤ 8 := by omega
  obtain ⟨h, z, b, r, rd, wr, s, p, q, t⟩ := K
  try simp only at *
  obtain ⟨j14, j15⟩ := j14
  clear sm hK hA hB h1 h2 h3 h4 k1 k2 k3 k4 k5 l1 l2 l3 hM d1 d2 d3 d3' d4 d5 f1 f2 f3 f4 hp hS hS2 hb1 hb2 e1 hwr hbb htt
  go_enter Try.func66, Try.ntmps66
  go_wp2_with fail
  obtain ⟨w1, hw1⟩ : ∃ w1, ((w.alloc (cfgO h z b r rd wr s p q t (.slice a n c))).alloc (arr6 0 0 0 0 0 0)).alloc (arr6 2 0 0 0 0 0) = w1 := ⟨_, rfl⟩
  have HS : Hid (Sv w w.heap.size (w.heap.size + 1) (w.heap.size + 1 + 1) h z b r rd wr s p q t (.slice a n c) 2 0 0 0 0 0 w1) := by
    rw [← hw1]
    refine ⟨?_, ?_, ?_, (((Chg.refl no w).alloc _).alloc _).alloc _, by omega⟩
    · exact ((Chg.refl no _).alloc _).heap (((Chg.refl no _).alloc _).heap (heap_alloc_new w _) id) id
    · have := heap_alloc_new (w.alloc (cfgO h z b r rd wr s p q t (.slice a n c))) (arr6 0 0 0 0 0 0)
      exact ((Chg.refl no _).alloc _).heap (by simpa using this) id
    · have := heap_alloc_new ((w.alloc (cfgO h z b r rd wr s p q t (.slice a n c))).alloc (arr6 0 0 0 0 0 0)) (arr6 2 0 0 0 0 0)
      simpa using this
  rw [hw1]
  obtain ⟨g, hg⟩ : ∃ g, w.heap.size = g := ⟨_, rfl⟩
  rw [hg] at HS ⊢
  obtain ⟨g', hg'⟩ : ∃ g', g + 1 = g' := ⟨_, rfl⟩
  rw [hg'] at HS ⊢
  obtain ⟨g'', hg''⟩ : ∃ g'', g' + 1 = g'' := ⟨_, rfl⟩
  rw [hg''] at HS ⊢
  clear hw1 hg hg' hg''
  obtain ⟨pK, hpK⟩ : ∃ pK : World → Prop, ∀ w', pK w' ↔ Chg no w1 w' := ⟨_, fun _ => Iff.rfl⟩
  obtain ⟨x0, x1, x2, x3, x4, x5, x6, x7, x8, x9, x10, iK⟩ := cfg_facts hpK HS.out.box
  obtain ⟨y0, y1, y2, y3, y4, y5⟩ := arr_facts hpK HS.out.arr
  have HpK : Hid (∀ w', pK w' ↔ Chg no w1 w') := hpK
  have Y0 : Chg no w1 w1.drew := (Chg.refl no w1).drew
  clear hpK
  refine far.region_farM (fun κ w' => κ ≤ 2 → pK w') [3, 5, 9] (by kernel_rfl) (by kernel_rfl) (fun _ => (HpK.out _).2 Y0) ?_
  intro L e1' e2' e3'
  refine far.farO_stretch pK 3 0 2 e1' e2' e3' (by kernel_rfl) (by kernel_rfl) (fun κ w' hk1 hk2 hC => hC hk2) ?_
  simp only [List.take_succ_cons, List.take_zero, List.drop_succ_cons, List.drop_zero, Nat.reduceAdd]
  repeat (go_big_quiet_step (fail))
  refine wpQuiet_nil ?_
  refine far.farO_enter e1' e2' 0 rfl rfl 17 #[cfgV ⟨h, z, b, r, rd, wr, s, p, q, t⟩ (.slice a n c)] (by kernel_rfl) (by kernel_rfl) ?_
  refine (HSl.out _).mono ?_
  rintro e w2 ⟨rfl, k1⟩
  have Y1 := Y0.then k1
  refine ⟨_, rfl, fun _ => (HpK.out _).2 Y1, ?_⟩
  simp only [Act.put, List.setIfInBounds_toArray, List.set_cons_succ, List.set_cons_zero, Nat.reduceAdd]
  refine far.farO_stretch pK 1 0 2 e1' e2' e3' (by kernel_rfl) (by kernel_rfl) (fun κ w' hk1 hk2 hC => hC hk2) ?_
  simp only [List.take_succ_cons, List.take_zero, List.drop_succ_cons, List.drop_zero, Nat.reduceAdd]
  repeat (go_big_quiet_step (fail))
  refine wpQuiet_nil ?_
  refine far.farO_enter e1' e2' 1 rfl rfl 65 #[cfgV ⟨h, z, b, r, rd, wr, s, p, q, t⟩ (.slice a n c), .int .i64 12] (by kernel_rfl) (by kernel_rfl) ?_
  refine (HC12.out _).mono ?_
  rintro e w3 ⟨rfl, k2⟩
  have Y2 := Y1.then k2
  refine ⟨_, rfl, fun _ => (HpK.out _).2 Y2, ?_⟩
  simp only [Act.put, List.setIfInBounds_toArray, List.set_cons_succ, List.set_cons_zero, Nat.reduceAdd]
  refine far.farO_stretch pK 3 0 2 e1' e2' e3' (by kernel_rfl) (by kernel_rfl) (fun κ w' hk1 hk2 hC => hC hk2) ?_
  simp only [List.take_succ_cons, List.take_zero, List.drop_succ_cons, List.drop_zero, Nat.reduceAdd]
  repeat (go_big_quiet_step (fail))
  refine wpQuiet_nil ?_
  refine far.farO_move e1' e2' 2 rfl rfl (by kernel_rfl) ?_
  obtain ⟨d1, d2⟩ := row_cell ((HS.out.later Y2).arr) 1 _ rfl
  unfold far.Moves
  go_simp
  refine far.farO_nil ?_
  have HS2 : Hid (Sv w g g' g'' h z b r rd wr s p q t (.slice a n c) 2 (s1 : Int) 0 0 0 0 (w3.setCell ⟨g'', 1, none⟩ (.int .i64 (s1 : Int)))) := (HS.out.later Y2).put 1 (s1 : Int) rfl
  obtain ⟨w4, hw⟩ : ∃ x, w3.setCell ⟨g'', 1, none⟩ (.int .i64 (s1 : Int)) = x := ⟨_, rfl⟩
  rw [hw] at HS2 ⊢
  clear e1' e2' e3' L
  clear hw HS d1 d2 HpK Y0 Y1 Y2 k1 k2 x0 x1 x2 x3 x4 x5 x6 x7 x8 x9 x10 iK y0 y1 y2 y3 y4 y5 pK
  have HS : Hid (Sv w g g' g'' h z b r rd wr s p q t (.slice a n c) 2 (s1 : Int) 0 0 0 0 w4) := HS2
  clear HS2
  go_wp2_with fail
  obtain ⟨pK, hpK⟩ : ∃ pK : World → Prop, ∀ w', pK w' ↔ Chg no w4 w' := ⟨_, fun _ => Iff.rfl⟩
  obtain ⟨x0, x1, x2, x3, x4, x5, x6, x7, x8, x9, x10, iK⟩ := cfg_facts hpK HS.out.box
  obtain ⟨y0, y1, y2, y3, y4, y5⟩ := arr_facts hpK HS.out.arr
  have HpK : Hid (∀ w', pK w' ↔ Chg no w4 w') := hpK
  have Y0 : Chg no w4 w4.drew := (Chg.refl no w4).drew
  clear hpK
  refine far.region_farM (fun κ w' => κ ≤ 2 → pK w') [4, 5, 9] (by kernel_rfl) (by kernel_rfl) (fun _ => (HpK.out _).2 Y0) ?_
  intro L e1' e2' e3'
  refine far.farO_stretch pK 4 0 2 e1' e2' e3' (by kernel_rfl) (by kernel_rfl) (fun κ w' hk1 hk2 hC => hC hk2) ?_
  simp only [List.take_succ_cons, List.take_zero, List.drop_succ_cons, List.drop_zero, Nat.reduceAdd]
  repeat (go_big_quiet_step (fail))
  refine wpQuiet_nil ?_
  refine far.farO_enter e1' e2' 0 rfl rfl 26 #[cfgV ⟨h, z, b, r, rd, wr, s, p, q, t⟩ (.slice a n c)] (by kernel_rfl) (by kernel_rfl) ?_
  refine (HCl.out _).mono ?_
  rintro e w5 ⟨rfl, k1⟩
  have Y1 := Y0.then k1
  refine ⟨_, rfl, fun _ => (HpK.out _).2 Y1, ?_⟩
  simp only [Act.put, List.setIfInBounds_toArray, List.set_cons_succ, List.set_cons_zero, Nat.reduceAdd]
  refine far.farO_enter e1' e2' 1 rfl rfl 65 #[cfgV ⟨h, z, b, r, rd, wr, s, p, q, t⟩ (.slice a n c), .int .i64 (lc : Int)] (by kernel_rfl) (by kernel_rfl) ?_
  refine (HCcl.out _).mono ?_
  rintro e w6 ⟨rfl, k2⟩
  have Y2 := Y1.then k2
  refine ⟨_, rfl, fun _ => (HpK.out _).2 Y2, ?_⟩
  simp only [Act.put, List.setIfInBounds_toArray, List.set_cons_succ, List.set_cons_zero, Nat.reduceAdd]
  refine far.farO_stretch pK 3 0 2 e1' e2' e3' (by kernel_rfl) (by kernel_rfl) (fun κ w' hk1 hk2 hC => hC hk2) ?_
  simp only [List.take_succ_cons, List.take_zero, List.drop_succ_cons, List.drop_zero, Nat.reduceAdd]
  repeat (go_big_quiet_step (fail))
  refine wpQuiet_nil ?_
  refine far.farO_move e1' e2' 2 rfl rfl (by kernel_rfl) ?_
  obtain ⟨d1, d2⟩ := row_cell ((HS.out.later Y2).arr) 2 _ rfl
  unfold far.Moves
  go_simp
  refine far.farO_nil ?_
  have HS2 : Hid (Sv w g g' g'' h z b r rd wr s p q t (.slice a n c) 2 (s1 : Int) (s2 : Int) 0 0 0 (w6.setCell ⟨g'', 2, none⟩ (.int .i64 (s2 : Int)))) := (HS.out.later Y2).put 2 (s2 : Int) rfl
  obtain ⟨w7, hw⟩ : ∃ x, w6.setCell ⟨g'', 2, none⟩ (.int .i64 (s2 : Int)) = x := ⟨_, rfl⟩
  rw [hw] at HS2 ⊢
  clear e1' e2' e3' L
  clear hw HS d1 d2 HpK Y0 Y1 Y2 k1 k2 x0 x1 x2 x3 x4 x5 x6 x7 x8 x9 x10 iK y0 y1 y2 y3 y4 y5 pK
  have HS : Hid (Sv w g g' g'' h z b r rd wr s p q t (.slice a n c) 2 (s1 : Int) (s2 : Int) 0 0 0 w7) := HS2
  clear HS2
  go_wp2_with fail
  obtain ⟨pK, hpK⟩ : ∃ pK : World → Prop, ∀ w', pK w' ↔ Chg no w7 w' := ⟨_, fun _ => Iff.rfl⟩
  obtain ⟨x0, x1, x2, x3, x4, x5, x6, x7, x8, x9, x10, iK⟩ := cfg_facts hpK HS.out.box
  obtain ⟨y0, y1, y2, y3, y4, y5⟩ := arr_facts hpK HS.out.arr
  have HpK : Hid (∀ w', pK w' ↔ Chg no w7 w') := hpK
  have Y0 : Chg no w7 w7.drew := (Chg.refl no w7).drew
  clear hpK
  refine far.region_farM (fun κ w' => κ ≤ 2 → pK w') [8, 9, 13] (by kernel_rfl) (by kernel_rfl) (fun _ => (HpK.out _).2 Y0) ?_
  intro L e1' e2' e3'
  refine far.farO_stretch pK 8 0 2 e1' e2' e3' (by kernel_rfl) (by kernel_rfl) (fun κ w' hk1 hk2 hC => hC hk2) ?_
  simp only [List.take_succ_cons, List.take_zero, List.drop_succ_cons, List.drop_zero, Nat.reduceAdd]
  repeat (go_big_quiet_step (fail))
  refine wpQuiet_nil ?_
  refine far.farO_enter e1' e2' 0 rfl rfl 22 #[cfgV ⟨h, z, b, r, rd, wr, s, p, q, t⟩ (.slice a n c)] (by kernel_rfl) (by kernel_rfl) ?_
  refine (HDl.out _).mono ?_
  rintro e w8 ⟨rfl, k1⟩
  have Y1 := Y0.then k1
  refine ⟨_, rfl, fun _ => (HpK.out _).2 Y1, ?_⟩
  simp only [Act.put, List.setIfInBounds_toArray, List.set_cons_succ, List.set_cons_zero, Nat.reduceAdd]
  refine far.farO_enter e1' e2' 1 rfl rfl 65 #[cfgV ⟨h, z, b, r, rd, wr, s, p, q, t⟩ (.slice a n c), .int .i64 (ld : Int)] (by kernel_rfl) (by kernel_rfl) ?_
  refine (HCde.out _).mono ?_
  rintro e w9 ⟨rfl, k2⟩
  have Y2 := Y1.then k2
  refine ⟨_, rfl, fun _ => (HpK.out _).2 Y2, ?_⟩
  simp only [Act.put, List.setIfInBounds_toArray, List.set_cons_succ, List.set_cons_zero, Nat.reduceAdd]
  refine far.farO_stretch pK 3 0 2 e1' e2' e3' (by kernel_rfl) (by kernel_rfl) (fun κ w' hk1 hk2 hC => hC hk2) ?_
  simp only [List.take_succ_cons, List.take_zero, List.drop_succ_cons, List.drop_zero, Nat.reduceAdd]
  repeat (go_big_quiet_step (fail))
  refine wpQuiet_nil ?_
  refine far.farO_move e1' e2' 2 rfl rfl (by kernel_rfl) ?_
  obtain ⟨d1, d2⟩ := row_cell ((HS.out.later Y2).arr) 3 _ rfl
  unfold far.Moves
  go_simp
  refine far.farO_nil ?_
  have HS2 : Hid (Sv w g g' g'' h z b r rd wr s p q t (.slice a n c) 2 (s1 : Int) (s2 : Int) (s3 : Int) 0 0 (w9.setCell ⟨g'', 3, none⟩ (.int .i64 (s3 : Int)))) := (HS.out.later Y2).put 3 (s3 : Int) rfl
  obtain ⟨w10, hw⟩ : ∃ x, w9.setCell ⟨g'', 3, none⟩ (.int .i64 (s3 : Int)) = x := ⟨_, rfl⟩
  rw [hw] at HS2 ⊢
  clear e1' e2' e3' L
  clear hw HS d1 d2 HpK Y0 Y1 Y2 k1 k2 x0 x1 x2 x3 x4 x5 x6 x7 x8 x9 x10 iK y0 y1 y2 y3 y4 y5 pK
  have HS : Hid (Sv w g g' g'' h z b r rd wr s p q t (.slice a n c) 2 (s1 : Int) (s2 : Int) (s3 : Int) 0 0 w10) := HS2
  clear HS2
  go_wp2_with fail
  obtain ⟨pK, hpK⟩ : ∃ pK : World → Prop, ∀ w', pK w' ↔ Chg no w10 w' := ⟨_, fun _ => Iff.rfl⟩
  obtain ⟨x0, x1, x2, x3, x4, x5, x6, x7, x8, x9, x10, iK⟩ := cfg_facts hpK HS.out.box
  obtain ⟨y0, y1, y2, y3, y4, y5⟩ := arr_facts hpK HS.out.arr
  have HpK : Hid (∀ w', pK w' ↔ Chg no w10 w') := hpK
  have Y0 : Chg no w10 w10.drew := (Chg.refl no w10).drew
  clear hpK
  refine far.region_farM (fun κ w' => κ ≤ 2 → pK w') [4, 5, 9] (by kernel_rfl) (by kernel_rfl) (fun _ => (HpK.out _).2 Y0) ?_
  intro L e1' e2' e3'
  refine far.farO_stretch pK 4 0 2 e1' e2' e3' (by kernel_rfl) (by kernel_rfl) (fun κ w' hk1 hk2 hC => hC hk2) ?_
  simp only [List.take_succ_cons, List.take_zero, List.drop_succ_cons, List.drop_zero, Nat.reduceAdd]
  repeat (go_big_quiet_step (fail))
  refine wpQuiet_nil ?_
  refine far.farO_enter e1' e2' 0 rfl rfl 24 #[cfgV ⟨h, z, b, r, rd, wr, s, p, q, t⟩ (.slice a n c)] (by kernel_rfl) (by kernel_rfl) ?_
  refine (HFl.out _).mono ?_
  rintro e w11 ⟨rfl, k1⟩
  have Y1 := Y0.then k1
  refine ⟨_, rfl, fun _ => (HpK.out _).2 Y1, ?_⟩
  simp only [Act.put, List.setIfInBounds_toArray, List.set_cons_succ, List.set_cons_zero, Nat.reduceAdd]
  refine far.farO_enter e1' e2' 1 rfl rfl 65 #[cfgV ⟨h, z, b, r, rd, wr, s, p, q, t⟩ (.slice a n c), .int .i64 (lf : Int)] (by kernel_rfl) (by kernel_rfl) ?_
  refine (HCfu.out _).mono ?_
  rintro e w12 ⟨rfl, k2⟩
  have Y2 := Y1.then k2
  refine ⟨_, rfl, fun _ => (HpK.out _).2 Y2, ?_⟩
  simp only [Act.put, List.setIfInBounds_toArray, List.set_cons_succ, List.set_cons_zero, Nat.reduceAdd]
  refine far.farO_stretch pK 3 0 2 e1' e2' e3' (by kernel_rfl) (by kernel_rfl) (fun κ w' hk1 hk2 hC => hC hk2) ?_
  simp only [List.take_succ_cons, List.take_zero, List.drop_succ_cons, List.drop_zero, Nat.reduceAdd]
  repeat (go_big_quiet_step (fail))
  refine wpQuiet_nil ?_
  refine far.farO_move e1' e2' 2 rfl rfl (by kernel_rfl) ?_
  obtain ⟨d1, d2⟩ := row_cell ((HS.out.later Y2).arr) 4 _ rfl
  unfold far.Moves
  go_simp
  refine far.farO_nil ?_
  have HS2 : Hid (Sv w g g' g'' h z b r rd wr s p q t (.slice a n c) 2 (s1 : Int) (s2 : Int) (s3 : Int) (s4 : Int) 0 (w12.setCell ⟨g'', 4, none⟩ (.int .i64 (s4 : Int)))) := (HS.out.later Y2).put 4 (s4 : Int) rfl
  obtain ⟨w13, hw⟩ : ∃ x, w12.setCell ⟨g'', 4, none⟩ (.int .i64 (s4 : Int)) = x := ⟨_, rfl⟩
  rw [hw] at HS2 ⊢
  clear e1' e2' e3' L
  clear hw HS d1 d2 HpK Y0 Y1 Y2 k1 k2 x0 x1 x2 x3 x4 x5 x6 x7 x8 x9 x10 iK y0 y1 y2 y3 y4 y5 pK
  have HS : Hid (Sv w g g' g'' h z b r rd wr s p q t (.slice a n c) 2 (s1 : Int) (s2 : Int) (s3 : Int) (s4 : Int) 0 w13) := HS2
  clear HS2
  go_wp2_with fail
  obtain ⟨pK, hpK⟩ : ∃ pK : World → Prop, ∀ w', pK w' ↔ Chg no w13 w' := ⟨_, fun _ => Iff.rfl⟩
  obtain ⟨x0, x1, x2, x3, x4, x5, x6, x7, x8, x9, x10, iK⟩ := cfg_facts hpK HS.out.box
  obtain ⟨y0, y1, y2, y3, y4, y5⟩ := arr_facts hpK HS.out.arr
  have HpK : Hid (∀ w', pK w' ↔ Chg no w13 w') := hpK
  have Y0 : Chg no w13 w13.drew := (Chg.refl no w13).drew
  clear hpK
  refine far.region_farM (fun κ w' => κ ≤ 1 → pK w') [4, 8] (by kernel_rfl) (by kernel_rfl) (fun _ => (HpK.out _).2 Y0) ?_
  intro L e1' e2' e3'
  refine far.farO_stretch pK 4 0 1 e1' e2' e3' (by kernel_rfl) (by kernel_rfl) (fun κ w' hk1 hk2 hC => hC hk2) ?_
  simp only [List.take_succ_cons, List.take_zero, List.drop_succ_cons, List.drop_zero, Nat.reduceAdd]
  repeat (go_big_quiet_step (fail))
  refine wpQuiet_nil ?_
  refine far.farO_enter e1' e2' 0 rfl rfl 61 #[.int .i64 (h : Int)] (by kernel_rfl) (by kernel_rfl) ?_
  refine (HB.out _).mono ?_
  rintro e w14 ⟨rfl, k1⟩
  have Y1 := Y0.then k1
  refine ⟨_, rfl, fun _ => (HpK.out _).2 Y1, ?_⟩
  simp only [Act.put, List.setIfInBounds_toArray, List.set_cons_succ, List.set_cons_zero, Nat.reduceAdd]
  refine far.farO_stretch pK 3 0 1 e1' e2' e3' (by kernel_rfl) (by kernel_rfl) (fun κ w' hk1 hk2 hC => hC hk2) ?_
  simp only [List.take_succ_cons, List.take_zero, List.drop_succ_cons, List.drop_zero, Nat.reduceAdd]
  repeat (go_big_quiet_step (fail))
  refine wpQuiet_nil ?_
  refine far.farO_move e1' e2' 1 rfl rfl (by kernel_rfl) ?_
  obtain ⟨d1, d2⟩ := row_cell ((HS.out.later Y1).arr) 5 _ rfl
  unfold far.Moves
  go_simp
  refine far.farO_nil ?_
  have HS2 : Hid (Sv w g g' g'' h z b r rd wr s p q t (.slice a n c) 2 (s1 : Int) (s2 : Int) (s3 : Int) (s4 : Int) (s5 : Int) (w14.setCell ⟨g'', 5, none⟩ (.int .i64 (s5 : Int)))) := (HS.out.later Y1).put 5 (s5 : Int) rfl
  obtain ⟨w15, hw⟩ : ∃ x, w14.setCell ⟨g'', 5, none⟩ (.int .i64 (s5 : Int)) = x := ⟨_, rfl⟩
  rw [hw] at HS2 ⊢
  clear e1' e2' e3' L
  clear hw HS d1 d2 HpK Y0 Y1 k1 x0 x1 x2 x3 x4 x5 x6 x7 x8 x9 x10 iK y0 y1 y2 y3 y4 y5 pK
  have HS : Hid (Sv w g g' g'' h z b r rd wr s p q t (.slice a n c) 2 (s1 : Int) (s2 : Int) (s3 : Int) (s4 : Int) (s5 : Int) w15) := HS2
  clear HS2
  obtain ⟨c0, c1, c2, c3, c4, c5⟩ := arr_cells HS.out.arr
  obtain ⟨r0, r1, r2, r3, r4, r5⟩ := arr_cells HS.out.res
  obtain ⟨f0, f1, f2, f3, f4, f5⟩ := arr_thaw HS.out.res
  go_wp2
  have hl := HS.out.lt
  have R0 := row_set (xs := [.int .i64 0, .int .i64 0, .int .i64 0, .int .i64 0, .int .i64 0, .int .i64 0]) (t := 56) HS.out.res 0 (.int .i64 2)
  have R1 := row_set (xs := [.int .i64 2, .int .i64 0, .int .i64 0, .int .i64 0, .int .i64 0, .int .i64 0]) (t := 56) R0 1 (.int .i64 (s1 : Int))
  have R2 := row_set (xs := [.int .i64 2, .int .i64 (s1 : Int), .int .i64 0, .int .i64 0, .int .i64 0, .int .i64 0]) (t := 56) R1 2 (.int .i64 (s2 : Int))
  have R3 := row_set (xs := [.int .i64 2, .int .i64 (s1 : Int), .int .i64 (s2 : Int), .int .i64 0, .int .i64 0, .int .i64 0]) (t := 56) R2 3 (.int .i64 (s3 : Int))
  have R4 := row_set (xs := [.int .i64 2, .int .i64 (s1 : Int), .int .i64 (s2 : Int), .int .i64 (s3 : Int), .int .i64 0, .int .i64 0]) (t := 56) R3 4 (.int .i64 (s4 : Int))
  have R5 := row_set (xs := [.int .i64 2, .int .i64 (s1 : Int), .int .i64 (s2 : Int), .int .i64 (s3 : Int), .int .i64 (s4 : Int), .int .i64 0]) (t := 56) R4 5 (.int .i64 (s5 : Int))
  have KZ : Chg no w ((((((w15.setCell ⟨g', 0, none⟩ (.int .i64 2)).setCell ⟨g', 1, none⟩ (.int .i64 (s1 : Int))).setCell ⟨g', 2, none⟩ (.int .i64 (s2 : Int))).setCell ⟨g', 3, none⟩ (.int .i64 (s3 : Int))).setCell ⟨g', 4, none⟩ (.int .i64 (s4 : Int))).setCell ⟨g', 5, none⟩ (.int .i64 (s5 : Int))) := ((((((HS.out.chg.setCell ⟨g', 0, none⟩ (.int .i64 2) (.inr (by show w.heap.size ≤ g'; omega))).setCell ⟨g', 1, none⟩ (.int .i64 (s1 : Int)) (.inr (by show w.heap.size ≤ g'; omega))).setCell ⟨g', 2, none⟩ (.int .i64 (s2 : Int)) (.inr (by show w.heap.size ≤ g'; omega))).setCell ⟨g', 3, none⟩ (.int .i64 (s3 : Int)) (.inr (by show w.heap.size ≤ g'; omega))).setCell ⟨g', 4, none⟩ (.int .i64 (s4 : Int)) (.inr (by show w.heap.size ≤ g'; omega))).setCell ⟨g', 5, none⟩ (.int .i64 (s5 : Int)) (.inr (by show w.heap.size ≤ g'; omega)))
  have RZ : ((((((w15.setCell ⟨g', 0, none⟩ (.int .i64 2)).setCell ⟨g', 1, none⟩ (.int .i64 (s1 : Int))).setCell ⟨g', 2, none⟩ (.int .i64 (s2 : Int))).setCell ⟨g', 3, none⟩ (.int .i64 (s3 : Int))).setCell ⟨g', 4, none⟩ (.int .i64 (s4 : Int))).setCell ⟨g', 5, none⟩ (.int .i64 (s5 : Int))).heap[g']? = some (arr6 2 (s1 : Int) (s2 : Int) (s3 : Int) (s4 : Int) (s5 : Int)) := R5
  have hres : Try.f66.results = #[.cell 2 56] := by kernel_rfl
  refine bodyPost_ret (v := .agg #[.int .i64 2, .int .i64 (s1 : Int), .int .i64 (s2 : Int), .int .i64 (s3 : Int), .int .i64 (s4 : Int), .int .i64 (s5 : Int)]) ?_ rfl ⟨rfl, KZ⟩
  obtain ⟨wz, hwz⟩ : ∃ wz, ((((((w15.setCell ⟨g', 0, none⟩ (.int .i64 2)).setCell ⟨g', 1, none⟩ (.int .i64 (s1 : Int))).setCell ⟨g', 2, none⟩ (.int .i64 (s2 : Int))).setCell ⟨g', 3, none⟩ (.int .i64 (s3 : Int))).setCell ⟨g', 4, none⟩ (.int .i64 (s4 : Int))).setCell ⟨g', 5, none⟩ (.int .i64 (s5 : Int))) = wz := ⟨_, rfl⟩
  rw [hwz] at RZ ⊢
  obtain ⟨q0, q1, q2, q3, q4, q5⟩ := arr_cells RZ
  clear hwz R0 R1 R2 R3 R4 R5 RZ KZ c0 c1 c2 c3 c4 c5 r0 r1 r2 r3 r4 r5 f0 f1 f2 f3 f4 f5
  simp only [results, hres]
  go_simp

end Go.Proofs.Ytfhpdcimdeilpaa.st
