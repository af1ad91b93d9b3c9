/- The smallest configuration; first. -/
import Derived.Test.YtfhpdcimdeilpaaDj
namespace Go.Proofs.Ytfhpdcimdeilpaa.st
open Go.ChangeShapes Go.WideShapes Go.ChangeAt Go.RowKit Go.Proofs.Ytfhpdcimdeilpaa.hp
set_option linter.unusedVariables false
set_option linter.unusedSimpArgs false

abbrev smallI : Ic := ⟨0, 1, 1, 1, 1, 1, 0, 1, 1, 1⟩
abbrev smallK : Cf := ⟨0, 1, 1, 1, 1, 1, 0, 1, 1, 1⟩

theorem small_any (w : World) : Calls Try.prog 49 #[] w fun e w' => ∃ y x, e = .returned (cfgI smallI (.slice (some y) 1 1)) ∧ Chg no w w' ∧ Rws w' (some y) 1 (fun _ => some x) (fun _ => 1) (fun _ => [1]) := by
  have hres : Try.f49.results = #[.cell 0 24] := by kernel_rfl
  go_enter Try.func49, Try.ntmps49
  go_wp2
  obtain ⟨CA, hCA⟩ : ∃ CA : Obj, Obj.cells #[Value.int .i64 0, .int .i64 1, .int .i64 1, .int .i64 1, .int .i64 1, .int .i64 1, .int .i64 0, .int .i64 1, .int .i64 1, .int .i64 1, .slice (some ⟨w.heap.size + 1 + 1, 0, none⟩) 1 1] 24 = CA := ⟨_, rfl⟩
  have hB : (((w.alloc CA).alloc (.cells #[.int .i64 1] 3)).alloc (.cells #[.slice (some ⟨w.heap.size + 1, 0, none⟩) 1 1] 50)).heap[w.heap.size + 1]? = some (.cells #[.int .i64 1] 3 (0, 0)) := by
    have := heap_alloc_new (w.alloc CA) (.cells #[.int .i64 1] 3)
    exact ((Chg.refl no _).alloc _).heap (by simpa using this) id
  have hC : (((w.alloc CA).alloc (.cells #[.int .i64 1] 3)).alloc (.cells #[.slice (some ⟨w.heap.size + 1, 0, none⟩) 1 1] 50)).heap[w.heap.size + 1 + 1]? = some (.cells #[.slice (some ⟨w.heap.size + 1, 0, none⟩) 1 1] 50 (0, 0)) := by
    have := heap_alloc_new ((w.alloc CA).alloc (.cells #[.int .i64 1] 3)) (.cells #[.slice (some ⟨w.heap.size + 1, 0, none⟩) 1 1] 50)
    simpa using this
  have hA : (((w.alloc CA).alloc (.cells #[.int .i64 1] 3)).alloc (.cells #[.slice (some ⟨w.heap.size + 1, 0, none⟩) 1 1] 50)).heap[w.heap.size]? = some CA := ((Chg.refl no _).alloc _).heap (((Chg.refl no _).alloc _).heap (heap_alloc_new w _) id) id
  have hK : Chg no w (((w.alloc CA).alloc (.cells #[.int .i64 1] 3)).alloc (.cells #[.slice (some ⟨w.heap.size + 1, 0, none⟩) 1 1] 50)) := (((Chg.refl no w).alloc _).alloc _).alloc _
  rw [hCA]
  obtain ⟨W, hW⟩ : ∃ W, (((w.alloc CA).alloc (.cells #[.int .i64 1] 3)).alloc (.cells #[.slice (some ⟨w.heap.size + 1, 0, none⟩) 1 1] 50)) = W := ⟨_, rfl⟩
  rw [hW] at hA hB hC hK ⊢
  rw [← hCA] at hA
  clear hW hCA
  refine bodyPost_ret (v := cfgI smallI (.slice (some ⟨w.heap.size + 1 + 1, 0, none⟩) 1 1)) ?_ rfl ⟨⟨w.heap.size + 1 + 1, 0, none⟩, ⟨w.heap.size + 1, 0, none⟩, rfl, hK, fun r hr => ?_⟩
  · obtain ⟨c0, c1, c2, c3, c4, c5, c6, c7, c8, c9, c10⟩ := cfgI_cells (h := 0) (z := 1) (b := 1) (r := 1) (rd := 1) (wr := 1) (s := 0) (p := 1) (q := 1) (t := 1) hA
    clear hA hB hC hK
    simp only [results, hres]
    go_simp
  · obtain rfl : r = 0 := by omega
    refine ⟨_, rfl, ?_, Nat.le_refl _, by show 1 ≤ maxLen; unfold maxLen; omega, .inr ⟨_, 1, rfl, fun _ => lt_of_block hB, fun i u hu => ?_⟩⟩
    · exact (row_cell (xs := [_]) hC 0 _ rfl).1
    · rw [Addr.add_lit, Nat.zero_add]
      exact (row_cell (xs := [_]) hB i u hu).1

theorem small_may : mayP smallI 1 (fun _ => [1]) := by
  refine ⟨⟨?_, ?_, ?_, ?_, ?_, ?_, ?_, ?_, ?_, ?_, ?_⟩, fun r hr => ⟨Nat.le_refl 1, (by decide : 1 ≤ 4), fun k hk => .inl (List.mem_singleton.1 hk)⟩⟩ <;> (try simp only) <;> omega

theorem small_ok : okC smallK := natC_ok (I := smallI) small_may.1

abbrev layO (h z b r rd wr s p q t : Int) (tv : Value) : Obj := .cells #[.int .i64 h, .int .i64 z, .int .i64 b, .int .i64 r, .int .i64 rd, .int .i64 wr, .int .i64 s, .int .i64 p, .int .i64 q, .int .i64 t, tv] 28

section
variable {h z b r rd wr s p q t : Int} {g : Nat} {tv : Value}

theorem lay_cells {W : World} (hb : W.heap[g]? = some (layO h z b r rd wr s p q t tv)) :
    W.cell? ⟨g, 0, none⟩ = some (.int .i64 h) ∧ W.cell? ⟨g, 1, none⟩ = some (.int .i64 z) ∧ W.cell? ⟨g, 2, none⟩ = some (.int .i64 b) ∧ W.cell? ⟨g, 3, none⟩ = some (.int .i64 r) ∧ W.cell? ⟨g, 4, none⟩ = some (.int .i64 rd) ∧ W.cell? ⟨g, 5, none⟩ = some (.int .i64 wr) ∧ W.cell? ⟨g, 6, none⟩ = some (.int .i64 s) ∧ W.cell? ⟨g, 7, none⟩ = some (.int .i64 p) ∧ W.cell? ⟨g, 8, none⟩ = some (.int .i64 q) ∧ W.cell? ⟨g, 9, none⟩ = some (.int .i64 t) ∧ W.cell? ⟨g, 10, none⟩ = some tv :=
  ⟨(row_cell hb 0 _ rfl).1, (row_cell hb 1 _ rfl).1, (row_cell hb 2 _ rfl).1, (row_cell hb 3 _ rfl).1, (row_cell hb 4 _ rfl).1, (row_cell hb 5 _ rfl).1, (row_cell hb 6 _ rfl).1, (row_cell hb 7 _ rfl).1, (row_cell hb 8 _ rfl).1, (row_cell hb 9 _ rfl).1, (row_cell hb 10 _ rfl).1⟩

theorem lay_facts {pK : World → Prop} {w1 : World} (hpK : ∀ w', pK w' ↔ Chg no w1 w') (hb : w1.heap[g]? = some (layO h z b r rd wr s p q t tv)) :
    (∀ x : far.InC pK, x.w.cell? ⟨g, 0, none⟩ = some (.int .i64 h)) ∧ (∀ x : far.InC pK, x.w.cell? ⟨g, 1, none⟩ = some (.int .i64 z)) ∧ (∀ x : far.InC pK, x.w.cell? ⟨g, 2, none⟩ = some (.int .i64 b)) ∧ (∀ x : far.InC pK, x.w.cell? ⟨g, 3, none⟩ = some (.int .i64 r)) ∧ (∀ x : far.InC pK, x.w.cell? ⟨g, 4, none⟩ = some (.int .i64 rd)) ∧ (∀ x : far.InC pK, x.w.cell? ⟨g, 5, none⟩ = some (.int .i64 wr)) ∧ (∀ x : far.InC pK, x.w.cell? ⟨g, 6, none⟩ = some (.int .i64 s)) ∧ (∀ x : far.InC pK, x.w.cell? ⟨g, 7, none⟩ = some (.int .i64 p)) ∧ (∀ x : far.InC pK, x.w.cell? ⟨g, 8, none⟩ = some (.int .i64 q)) ∧ (∀ x : far.InC pK, x.w.cell? ⟨g, 9, none⟩ = some (.int .i64 t)) ∧ (∀ x : far.InC pK, x.w.cell? ⟨g, 10, none⟩ = some tv) :=
  have xB : ∀ x : far.InC pK, x.w.heap[g]? = some (layO h z b r rd wr s p q t tv) := fun x => ((hpK _).1 x.h).heap hb id
  ⟨fun x => (row_cell (xB x) 0 _ rfl).1, fun x => (row_cell (xB x) 1 _ rfl).1, fun x => (row_cell (xB x) 2 _ rfl).1, fun x => (row_cell (xB x) 3 _ rfl).1, fun x => (row_cell (xB x) 4 _ rfl).1, fun x => (row_cell (xB x) 5 _ rfl).1, fun x => (row_cell (xB x) 6 _ rfl).1, fun x => (row_cell (xB x) 7 _ rfl).1, fun x => (row_cell (xB x) 8 _ rfl).1, fun x => (row_cell (xB x) 9 _ rfl).1, fun x => (row_cell (xB x) 10 _ rfl).1⟩

end

theorem cfgI_facts {h z b r rd wr s p q t : Int} {g : Nat} {tv : Value} {pK : World → Prop} {w1 : World} (hpK : ∀ w', pK w' ↔ Chg no w1 w') (hb : w1.heap[g]? = some (cfgOI h z b r rd wr s p q t tv)) :
    (∀ x : far.InC pK, x.w.cell? ⟨g, 0, none⟩ = some (.int .i64 h)) ∧ (∀ x : far.InC pK, x.w.cell? ⟨g, 1, none⟩ = some (.int .i64 z)) ∧ (∀ x : far.InC pK, x.w.cell? ⟨g, 2, none⟩ = some (.int .i64 b)) ∧ (∀ x : far.InC pK, x.w.cell? ⟨g, 3, none⟩ = some (.int .i64 r)) ∧ (∀ x : far.InC pK, x.w.cell? ⟨g, 4, none⟩ = some (.int .i64 rd)) ∧ (∀ x : far.InC pK, x.w.cell? ⟨g, 5, none⟩ = some (.int .i64 wr)) ∧ (∀ x : far.InC pK, x.w.cell? ⟨g, 6, none⟩ = some (.int .i64 s)) ∧ (∀ x : far.InC pK, x.w.cell? ⟨g, 7, none⟩ = some (.int .i64 p)) ∧ (∀ x : far.InC pK, x.w.cell? ⟨g, 8, none⟩ = some (.int .i64 q)) ∧ (∀ x : far.InC pK, x.w.cell? ⟨g, 9, none⟩ = some (.int .i64 t)) ∧ (∀ x : far.InC pK, x.w.cell? ⟨g, 10, none⟩ = some tv) :=
  have xB : ∀ x : far.InC pK, x.w.heap[g]? = some (cfgOI h z b r rd wr s p q t tv) := fun x => ((hpK _).1 x.h).heap hb id
  ⟨fun x => (row_cell (xB x) 0 _ rfl).1, fun x => (row_cell (xB x) 1 _ rfl).1, fun x => (row_cell (xB x) 2 _ rfl).1, fun x => (row_cell (xB x) 3 _ rfl).1, fun x => (row_cell (xB x) 4 _ rfl).1, fun x => (row_cell (xB x) 5 _ rfl).1, fun x => (row_cell (xB x) 6 _ rfl).1, fun x => (row_cell (xB x) 7 _ rfl).1, fun x => (row_cell (xB x) 8 _ rfl).1, fun x => (row_cell (xB x) 9 _ rfl).1, fun x => (row_cell (xB x) 10 _ rfl).1⟩

/-- A configuration's box, a Lay's. -/
structure Tb (gc gl : Nat) (h z b r rd wr s p q t : Nat) (tv tv' : Value) (W : World) : Prop where
  box : W.heap[gc]? = some (cfgO h z b r rd wr s p q t tv)
  lay : W.heap[gl]? = some (layO h z b r rd wr s p q t tv')

theorem Tb.later {gc gl h z b r rd wr s p q t : Nat} {tv tv' : Value} {W W' : World} (T : Tb gc gl h z b r rd wr s p q t tv tv' W) (k : Chg no W W') : Tb gc gl h z b r rd wr s p q t tv tv' W' := ⟨k.heap T.box id, k.heap T.lay id⟩

/-- The numbers of the smallest configuration. -/
theorem small_nums : payN smallK = 38 ∧ slotsN smallK = 2 ∧ bucketA smallK 0 1 = (st5 smallK : Int) - 1 ∧ 1 ≤ cFull smallK ∧ cFull smallK ≤ 92 := by
  refine ⟨by decide, by decide, by decide, ?_, ?_⟩
  · exact (small small_ok).full.1
  · exact (small small_ok).full.2

theorem zero_not : ¬ mayP ⟨0, 0, 0, 0, 0, 0, 0, 0, 0, 0⟩ 0 (fun _ => []) := fun h => by
  have := h.1.len
  omega

set_option maxRecDepth 100000 in
set_option maxHeartbeats 4000000 in
theorem first_any (V : Ways) (w : World) : Calls Try.prog 7 #[] w fun e w' => e = .returned (.bool true) ∧ Chg no w w' := by
  obtain ⟨n1, n2, n3, n4, n5⟩ := small_nums
  have st := st_le small_ok
  have HS := small_any w
  have HO : Hid (∀ (W : World) (y x : Addr), Rws W (some y) 1 (fun _ => some x) (fun _ => 1) (fun _ => [1]) → Calls Try.prog 9 #[cfgI smallI (.slice (some y) 1 1)] W fun e w' => ∃ a' n' c', e = .returned (.tuple #[layV smallK (.slice a' n' c'), .int .i64 0]) ∧ Chg no W w') := fun W y x R => V.of1 W smallI (some y) 1 1 _ _ _ R (by unfold maxLen; omega) small_may
  have HP : Hid (∀ W a n c, Calls Try.prog 12 #[layV smallK (.slice a n c)] W fun e w' => e = .returned (.int .i64 38) ∧ Chg no W w') := fun W a n c => by have := V.pay W smallK small_ok a n c; rw [n1] at this; exact this
  have HC : Hid (∀ W a n c, Calls Try.prog 14 #[layV smallK (.slice a n c)] W fun e w' => e = .returned (.int .i64 50) ∧ Chg no W w') := fun W a n c => by have := V.cell W smallK small_ok a n c; rw [n1] at this; exact this
  have HSl : Hid (∀ W a n c, Calls Try.prog 16 #[layV smallK (.slice a n c)] W fun e w' => e = .returned (.int .i64 2) ∧ Chg no W w') := fun W a n c => by have := V.slots W smallK small_ok a n c; rw [n2] at this; exact this
  have HB : Hid (∀ W a n c, Calls Try.prog 38 #[layV smallK (.slice a n c), .int .i64 0, .int .i64 1] W fun e w' => e = .returned (.int .i64 ((st5 smallK : Int) - 1)) ∧ Chg no W w') := fun W a n c => by have := V.bucket W smallK small_ok a n c 0 1; rw [n3] at this; exact this
  have HT : Hid (∀ W a n c, Calls Try.prog 40 #[layV smallK (.slice a n c)] W fun e w' => e = .returned (.int .i64 (st5 smallK : Int)) ∧ Chg no W w') := fun W a n c => V.total W smallK small_ok a n c
  have HM : Hid (∀ W a n c, Calls Try.prog 46 #[layV smallK (.slice a n c)] W fun e w' => e = .returned (.int .i64 ((5 + cFull smallK : Nat) : Int)) ∧ Chg no W w') := fun W a n c => V.make W smallK small_ok a n c
  have HZ : Hid (∀ W, Calls Try.prog 10 #[cfgI ⟨0, 0, 0, 0, 0, 0, 0, 0, 0, 0⟩ (.slice none 0 0)] W fun e w' => e = .returned (.bool false) ∧ Chg no W w') := fun W => V.may W ⟨0, 0, 0, 0, 0, 0, 0, 0, 0, 0⟩ none 0 0 (fun _ => none) (fun _ => 0) (fun _ => []) (fun r hr => by omega) (by omega) false (by simp [zero_not])
  obtain ⟨s5, h5⟩ : ∃ x, st5 smallK = x := ⟨_, rfl⟩
  obtain ⟨F, hF⟩ : ∃ x, cFull smallK = x := ⟨_, rfl⟩
  simp only [h5, hF] at HB HT HM n4 n5 st
  have hs5 : (s5 : Int) ≤ 1548 := by omega
  obtain ⟨M, hM⟩ : ∃ M, 5 + F = M := ⟨_, rfl⟩
  rw [hM] at HM
  have hM5 : (5 : Int) < M := by omega
  clear n1 n2 n3 n4 n5 h5 hF st hM
  go_enter Try.func7, Try.ntmps7
  go_wp2_with fail
  refine HS.mono ?_
  rintro e w2 ⟨y, x, rfl, k2, R⟩
  have HO2 := HO.out w2 y x R
  have K2 : Hid (Chg no w w2) := k2
  clear HS HO R k2
  go_wp2_with fail
  refine HO2.mono ?_
  rintro e w3 ⟨a, n, c, rfl, k3⟩
  have K3 : Hid (Chg no w w3) := K2.out.then k3
  clear HO2 K2 k3
  go_wp2_with fail
  obtain ⟨w4, hw4⟩ : ∃ w4, w3.alloc (layO 0 1 1 1 1 1 0 1 1 1 (.slice a n c)) = w4 := ⟨_, rfl⟩
  have hb : w4.heap[w3.heap.size]? = some (layO 0 1 1 1 1 1 0 1 1 1 (.slice a n c)) := by rw [← hw4]; exact heap_alloc_new w3 _
  have K4 : Hid (Chg no w w4) := by rw [← hw4]; exact K3.out.alloc _
  rw [hw4]
  obtain ⟨g, hg⟩ : ∃ g, w3.heap.size = g := ⟨_, rfl⟩
  rw [hg] at hb ⊢
  clear hw4 hg K3
  obtain ⟨pK, hpK⟩ : ∃ pK : World → Prop, ∀ w', pK w' ↔ Chg no w4 w' := ⟨_, fun _ => Iff.rfl⟩
  obtain ⟨x0, x1, x2, x3, x4, x5, x6, x7, x8, x9, x10⟩ := lay_facts hpK hb
  have iK : Nonempty (far.InC pK) := ⟨⟨w4, (hpK _).2 (Chg.refl no w4)⟩⟩
  have HpK : Hid (∀ w', pK w' ↔ Chg no w4 w') := hpK
  have Y0 : Chg no w4 w4.drew := (Chg.refl no w4).drew
  clear hpK hb
  refine far.region_farM (fun κ w' => pK w') [4, 9, 14, 19, 21, 33, 38] (by kernel_rfl) (by kernel_rfl) ((HpK.out _).2 Y0) ?_
  intro LP e1' e2' e3'
  refine far.farO_stretch pK 4 0 7 e1' e2' e3' (by kernel_rfl) (by kernel_rfl) (fun κ w' hk1 hk2 hC => hC) ?_
  simp only [List.take_succ_cons, List.take_zero, List.drop_succ_cons, List.drop_zero, Nat.reduceAdd]
  repeat (go_big_quiet_step (fail))
  refine wpQuiet_nil ?_
  refine far.farO_enter e1' e2' 0 rfl rfl 12 #[layV smallK (.slice a n c)] (by kernel_rfl) (by kernel_rfl) ?_
  refine (HP.out _ a n c).mono ?_
  rintro e w5 ⟨rfl, k1⟩
  have Y1 := Y0.then k1
  refine ⟨_, rfl, (HpK.out _).2 Y1, ?_⟩
  simp only [Act.put, List.setIfInBounds_toArray, List.set_cons_succ, List.set_cons_zero, Nat.reduceAdd]
  refine far.farO_stretch pK 4 0 7 e1' e2' e3' (by kernel_rfl) (by kernel_rfl) (fun κ w' hk1 hk2 hC => hC) ?_
  simp only [List.take_succ_cons, List.take_zero, List.drop_succ_cons, List.drop_zero, Nat.reduceAdd]
  repeat (go_big_quiet_step (fail))
  refine wpQuiet_nil ?_
  refine far.farO_enter e1' e2' 1 rfl rfl 14 #[layV smallK (.slice a n c)] (by kernel_rfl) (by kernel_rfl) ?_
  refine (HC.out _ a n c).mono ?_
  rintro e w6 ⟨rfl, k2⟩
  have Y2 := Y1.then k2
  refine ⟨_, rfl, (HpK.out _).2 Y2, ?_⟩
  simp only [Act.put, List.setIfInBounds_toArray, List.set_cons_succ, List.set_cons_zero, Nat.reduceAdd]
  refine far.farO_stretch pK 4 0 7 e1' e2' e3' (by kernel_rfl) (by kernel_rfl) (fun κ w' hk1 hk2 hC => hC) ?_
  simp only [List.take_succ_cons, List.take_zero, List.drop_succ_cons, List.drop_zero, Nat.reduceAdd]
  repeat (go_big_quiet_step (fail))
  refine wpQuiet_nil ?_
  refine far.farO_enter e1' e2' 2 rfl rfl 16 #[layV smallK (.slice a n c)] (by kernel_rfl) (by kernel_rfl) ?_
  refine (HSl.out _ a n c).mono ?_
  rintro e w7 ⟨rfl, k3⟩
  have Y3 := Y2.then k3
  refine ⟨_, rfl, (HpK.out _).2 Y3, ?_⟩
  simp only [Act.put, List.setIfInBounds_toArray, List.set_cons_succ, List.set_cons_zero, Nat.reduceAdd]
  refine far.farO_stretch pK 4 0 7 e1' e2' e3' (by kernel_rfl) (by kernel_rfl) (fun κ w' hk1 hk2 hC => hC) ?_
  simp only [List.take_succ_cons, List.take_zero, List.drop_succ_cons, List.drop_zero, Nat.reduceAdd]
  repeat (go_big_quiet_step (fail))
  refine wpQuiet_nil ?_
  refine far.farO_enter e1' e2' 3 rfl rfl 38 #[layV smallK (.slice a n c), .int .i64 0, .int .i64 1] (by kernel_rfl) (by kernel_rfl) ?_
  refine (HB.out _ a n c).mono ?_
  rintro e w8 ⟨rfl, k4⟩
  have Y4 := Y3.then k4
  refine ⟨_, rfl, (HpK.out _).2 Y4, ?_⟩
  simp only [Act.put, List.setIfInBounds_toArray, List.set_cons_succ, List.set_cons_zero, Nat.reduceAdd]
  refine far.farO_stretch pK 1 0 7 e1' e2' e3' (by kernel_rfl) (by kernel_rfl) (fun κ w' hk1 hk2 hC => hC) ?_
  simp only [List.take_succ_cons, List.take_zero, List.drop_succ_cons, List.drop_zero, Nat.reduceAdd]
  repeat (go_big_quiet_step (fail))
  refine wpQuiet_nil ?_
  refine far.farO_enter e1' e2' 4 rfl rfl 40 #[layV smallK (.slice a n c)] (by kernel_rfl) (by kernel_rfl) ?_
  refine (HT.out _ a n c).mono ?_
  rintro e w9 ⟨rfl, k5⟩
  have Y5 := Y4.then k5
  refine ⟨_, rfl, (HpK.out _).2 Y5, ?_⟩
  simp only [Act.put, List.setIfInBounds_toArray, List.set_cons_succ, List.set_cons_zero, Nat.reduceAdd]
  refine far.farO_stretch pK 11 0 7 e1' e2' e3' (by kernel_rfl) (by kernel_rfl) (fun κ w' hk1 hk2 hC => hC) ?_
  simp only [List.take_succ_cons, List.take_zero, List.drop_succ_cons, List.drop_zero, Nat.reduceAdd]
  repeat (go_big_quiet_step (fail))
  refine wpQuiet_nil ?_
  refine far.farO_enter e1' e2' 5 rfl rfl 46 #[layV smallK (.slice a n c)] (by kernel_rfl) (by kernel_rfl) ?_
  refine (HM.out _ a n c).mono ?_
  rintro e w10 ⟨rfl, k6⟩
  have Y6 := Y5.then k6
  refine ⟨_, rfl, (HpK.out _).2 Y6, ?_⟩
  simp only [Act.put, List.setIfInBounds_toArray, List.set_cons_succ, List.set_cons_zero, Nat.reduceAdd]
  refine far.farO_stretch pK 4 0 7 e1' e2' e3' (by kernel_rfl) (by kernel_rfl) (fun κ w' hk1 hk2 hC => hC) ?_
  simp only [List.take_succ_cons, List.take_zero, List.drop_succ_cons, List.drop_zero, Nat.reduceAdd]
  repeat (go_big_quiet_step (fail))
  refine wpQuiet_nil ?_
  refine far.farO_enter e1' e2' 6 rfl rfl 10 #[cfgI ⟨0, 0, 0, 0, 0, 0, 0, 0, 0, 0⟩ (.slice none 0 0)] (by kernel_rfl) (by kernel_rfl) ?_
  refine (HZ.out _).mono ?_
  rintro e w11 ⟨rfl, k7⟩
  have Y7 := Y6.then k7
  refine ⟨_, rfl, (HpK.out _).2 Y7, ?_⟩
  simp only [Act.put, List.setIfInBounds_toArray, List.set_cons_succ, List.set_cons_zero, Nat.reduceAdd]
  refine far.farO_stretch pK 3 0 7 e1' e2' e3' (by kernel_rfl) (by kernel_rfl) (fun κ w' hk1 hk2 hC => hC) ?_
  simp only [List.take_succ_cons, List.take_zero, List.drop_succ_cons, List.drop_zero, Nat.reduceAdd]
  repeat (go_big_quiet_step (fail))
  refine wpQuiet_nil ?_
  refine far.farO_nil ?_
  go_wp2
  go_ret
  exact ⟨rfl, K4.out.then Y7⟩

end Go.Proofs.Ytfhpdcimdeilpaa.st
