/- The law LayBatches, walked. -/
import Derived.Test.YtfhpdcimdeilpaaBap
import Derived.Test.YtfhpdcimdeilpaaIct
namespace Go.Proofs.Ytfhpdcimdeilpaa.batches
open Go.ChangeShapes Go.WideShapes Go.ChangeAt Go.RowKit Go.Proofs.Ytfhpdcimdeilpaa.hp Go.Proofs.Ytfhpdcimdeilpaa.st Go.Proofs.Ytfhpdcimdeilpaa.tells
set_option linter.unusedVariables false
set_option linter.unusedSimpArgs false

theorem eql39s (w : World) (a b : Int) : (binOp .eql 39 (.agg #[.int .i64 a, .int .i64 b]) (.agg #[.int .i64 a, .int .i64 b])).run Try.prog w = .ok (.bool true) w := by
  rw [eql39]
  simp

theorem neq39s (w : World) (a b : Int) : (binOp .neq 39 (.agg #[.int .i64 a, .int .i64 b]) (.agg #[.int .i64 a, .int .i64 b])).run Try.prog w = .ok (.bool false) w := by
  rw [neq39]
  simp

theorem eql39n (w : World) {a b c d : Int} (h : a ≠ c) : (binOp .eql 39 (.agg #[.int .i64 a, .int .i64 b]) (.agg #[.int .i64 c, .int .i64 d])).run Try.prog w = .ok (.bool false) w := by
  rw [eql39]
  simp [h]

set_option maxRecDepth 100000 in
set_option maxHeartbeats 8000000 in
theorem nay (V : Ways) (w : World) (I : Ic) (a : Option Addr) (len c : Nat) (A : Nat → Option Addr) (C : Nat → Nat) (Z : Nat → List Int) (R : Rws w a len A C Z) (hlen : len ≤ maxLen) (hM : ¬ mayP I len Z) (i : Int)  :
    Calls Try.prog 6 #[cfgI I (.slice a len c), .int .i64 i] w fun e w' => e = .returned (.bool true) ∧ Below w.heap.size w w' := by
  have HF : Hid (∀ W, Chg no w W → Calls Try.prog 8 #[cfgI I (.slice a len c)] W (FewRes len Z W)) := fun W k => few_any W I a len c A C Z hlen (Rws.chg R k)
  have HP : Hid (∀ W, Chg no w W → Calls Try.prog 10 #[cfgI I (.slice a len c)] W fun e w' => e = .returned (.bool false) ∧ Chg no W w') := fun W k => V.may W I a len c A C Z (Rws.chg R k) hlen false (by simp [hM])
  obtain ⟨h, z, b, r, rd, wt, s, p, q, t⟩ := I
  clear R hlen hM
  go_enter Try.func6, Try.ntmps6
  go_wp2_with fail
  obtain ⟨w1, hw1⟩ : ∃ w1, w.alloc (cfgOI h z b r rd wt s p q t (.slice a len c)) = w1 := ⟨_, rfl⟩
  have hb : w1.heap[w.heap.size]? = some (cfgOI h z b r rd wt s p q t (.slice a len c)) := by rw [← hw1]; exact heap_alloc_new w _
  have K1 : Hid (Chg no w w1) := by rw [← hw1]; exact (Chg.refl no w).alloc _
  rw [hw1]
  obtain ⟨g, hg⟩ : ∃ g, w.heap.size = g := ⟨_, rfl⟩
  rw [hg] at hb ⊢
  have HB : Hid (∀ W, Chg no w1 W → W.heap[g]? = some (cfgOI h z b r rd wt s p q t (.slice a len c))) := fun W k => k.heap hb id
  clear hw1 hg hb
  refine (first_any V _).mono ?_
  rintro e w2 ⟨rfl, k2⟩
  have K2 : Hid (Chg no w1 w2) := k2
  obtain ⟨c0, c1, c2, c3, c4, c5, c6, c7, c8, c9, c10⟩ := cfgI_cells (HB.out w2 k2)
  have HF2 := HF.out w2 (K1.out.then k2)
  clear k2 HF
  go_wp2_with fail
  refine HF2.mono ?_
  rintro e w3 ⟨B, rfl, k3, hB⟩
  have K3 : Hid (Chg no w1 w3) := K2.out.then k3
  clear HF2 k3 hB c0 c1 c2 c3 c4 c5 c6 c7 c8 c9 c10 K2
  cases B
  · go_wp2_with fail
    refine (first_any V _).mono ?_
    rintro e w4 ⟨rfl, k4⟩
    go_wp2
    go_ret
    exact ⟨rfl, ((K1.out.then K3.out).then k4).below⟩
  obtain ⟨c0, c1, c2, c3, c4, c5, c6, c7, c8, c9, c10⟩ := cfgI_cells (HB.out w3 K3.out)
  have HP3 := HP.out w3 (K1.out.then K3.out)
  go_wp2_with fail
  refine HP3.mono ?_
  rintro e w4 ⟨rfl, k4⟩
  have K4 : Hid (Chg no w1 w4) := K3.out.then k4
  clear HP3 k4 c0 c1 c2 c3 c4 c5 c6 c7 c8 c9 c10 K3
  go_wp2_with fail
  refine (first_any V _).mono ?_
  rintro e w5 ⟨rfl, k5⟩
  go_wp2
  go_ret
  exact ⟨rfl, ((K1.out.then K4.out).then k5).below⟩

set_option maxRecDepth 100000 in
set_option maxHeartbeats 8000000 in
theorem low (V : Ways) (w : World) (I : Ic) (a : Option Addr) (len c : Nat) (A : Nat → Option Addr) (C : Nat → Nat) (Z : Nat → List Int) (R : Rws w a len A C Z) (hlen : len ≤ maxLen) (hM : mayP I len Z) (i : Int) (hi : i < 0) :
    Calls Try.prog 6 #[cfgI I (.slice a len c), .int .i64 i] w fun e w' => e = .returned (.bool true) ∧ Below w.heap.size w w' := by
  have HF : Hid (∀ W, Chg no w W → Calls Try.prog 8 #[cfgI I (.slice a len c)] W (FewRes len Z W)) := fun W k => few_any W I a len c A C Z hlen (Rws.chg R k)
  have HP : Hid (∀ W, Chg no w W → Calls Try.prog 10 #[cfgI I (.slice a len c)] W fun e w' => e = .returned (.bool true) ∧ Chg no W w') := fun W k => V.may W I a len c A C Z (Rws.chg R k) hlen true (by simp [hM])
  obtain ⟨h, z, b, r, rd, wt, s, p, q, t⟩ := I
  clear R hlen hM
  go_enter Try.func6, Try.ntmps6
  go_wp2_with fail
  obtain ⟨w1, hw1⟩ : ∃ w1, w.alloc (cfgOI h z b r rd wt s p q t (.slice a len c)) = w1 := ⟨_, rfl⟩
  have hb : w1.heap[w.heap.size]? = some (cfgOI h z b r rd wt s p q t (.slice a len c)) := by rw [← hw1]; exact heap_alloc_new w _
  have K1 : Hid (Chg no w w1) := by rw [← hw1]; exact (Chg.refl no w).alloc _
  rw [hw1]
  obtain ⟨g, hg⟩ : ∃ g, w.heap.size = g := ⟨_, rfl⟩
  rw [hg] at hb ⊢
  have HB : Hid (∀ W, Chg no w1 W → W.heap[g]? = some (cfgOI h z b r rd wt s p q t (.slice a len c))) := fun W k => k.heap hb id
  clear hw1 hg hb
  refine (first_any V _).mono ?_
  rintro e w2 ⟨rfl, k2⟩
  have K2 : Hid (Chg no w1 w2) := k2
  obtain ⟨c0, c1, c2, c3, c4, c5, c6, c7, c8, c9, c10⟩ := cfgI_cells (HB.out w2 k2)
  have HF2 := HF.out w2 (K1.out.then k2)
  clear k2 HF
  go_wp2_with fail
  refine HF2.mono ?_
  rintro e w3 ⟨B, rfl, k3, hB⟩
  have K3 : Hid (Chg no w1 w3) := K2.out.then k3
  clear HF2 k3 hB c0 c1 c2 c3 c4 c5 c6 c7 c8 c9 c10 K2
  cases B
  · go_wp2_with fail
    refine (first_any V _).mono ?_
    rintro e w4 ⟨rfl, k4⟩
    go_wp2
    go_ret
    exact ⟨rfl, ((K1.out.then K3.out).then k4).below⟩
  obtain ⟨c0, c1, c2, c3, c4, c5, c6, c7, c8, c9, c10⟩ := cfgI_cells (HB.out w3 K3.out)
  have HP3 := HP.out w3 (K1.out.then K3.out)
  go_wp2_with fail
  refine HP3.mono ?_
  rintro e w4 ⟨rfl, k4⟩
  have K4 : Hid (Chg no w1 w4) := K3.out.then k4
  clear HP3 k4 c0 c1 c2 c3 c4 c5 c6 c7 c8 c9 c10 K3
  go_wp2_with fail
  refine (first_any V _).mono ?_
  rintro e w5 ⟨rfl, k5⟩
  go_wp2
  go_ret
  exact ⟨rfl, ((K1.out.then K4.out).then k5).below⟩

set_option maxRecDepth 100000 in
set_option maxHeartbeats 8000000 in
theorem high (V : Ways) (w : World) (I : Ic) (a : Option Addr) (len c : Nat) (A : Nat → Option Addr) (C : Nat → Nat) (Z : Nat → List Int) (R : Rws w a len A C Z) (hlen : len ≤ maxLen) (hM : mayP I len Z) (i : Int) (hi : 1099511627776 < i) :
    Calls Try.prog 6 #[cfgI I (.slice a len c), .int .i64 i] w fun e w' => e = .returned (.bool true) ∧ Below w.heap.size w w' := by
  have HF : Hid (∀ W, Chg no w W → Calls Try.prog 8 #[cfgI I (.slice a len c)] W (FewRes len Z W)) := fun W k => few_any W I a len c A C Z hlen (Rws.chg R k)
  have HP : Hid (∀ W, Chg no w W → Calls Try.prog 10 #[cfgI I (.slice a len c)] W fun e w' => e = .returned (.bool true) ∧ Chg no W w') := fun W k => V.may W I a len c A C Z (Rws.chg R k) hlen true (by simp [hM])
  obtain ⟨h, z, b, r, rd, wt, s, p, q, t⟩ := I
  clear R hlen hM
  have hi0 : ¬ i < 0 := by omega
  go_enter Try.func6, Try.ntmps6
  go_wp2_with fail
  obtain ⟨w1, hw1⟩ : ∃ w1, w.alloc (cfgOI h z b r rd wt s p q t (.slice a len c)) = w1 := ⟨_, rfl⟩
  have hb : w1.heap[w.heap.size]? = some (cfgOI h z b r rd wt s p q t (.slice a len c)) := by rw [← hw1]; exact heap_alloc_new w _
  have K1 : Hid (Chg no w w1) := by rw [← hw1]; exact (Chg.refl no w).alloc _
  rw [hw1]
  obtain ⟨g, hg⟩ : ∃ g, w.heap.size = g := ⟨_, rfl⟩
  rw [hg] at hb ⊢
  have HB : Hid (∀ W, Chg no w1 W → W.heap[g]? = some (cfgOI h z b r rd wt s p q t (.slice a len c))) := fun W k => k.heap hb id
  clear hw1 hg hb
  refine (first_any V _).mono ?_
  rintro e w2 ⟨rfl, k2⟩
  have K2 : Hid (Chg no w1 w2) := k2
  obtain ⟨c0, c1, c2, c3, c4, c5, c6, c7, c8, c9, c10⟩ := cfgI_cells (HB.out w2 k2)
  have HF2 := HF.out w2 (K1.out.then k2)
  clear k2 HF
  go_wp2_with fail
  refine HF2.mono ?_
  rintro e w3 ⟨B, rfl, k3, hB⟩
  have K3 : Hid (Chg no w1 w3) := K2.out.then k3
  clear HF2 k3 hB c0 c1 c2 c3 c4 c5 c6 c7 c8 c9 c10 K2
  cases B
  · go_wp2_with fail
    refine (first_any V _).mono ?_
    rintro e w4 ⟨rfl, k4⟩
    go_wp2
    go_ret
    exact ⟨rfl, ((K1.out.then K3.out).then k4).below⟩
  obtain ⟨c0, c1, c2, c3, c4, c5, c6, c7, c8, c9, c10⟩ := cfgI_cells (HB.out w3 K3.out)
  have HP3 := HP.out w3 (K1.out.then K3.out)
  go_wp2_with fail
  refine HP3.mono ?_
  rintro e w4 ⟨rfl, k4⟩
  have K4 : Hid (Chg no w1 w4) := K3.out.then k4
  clear HP3 k4 c0 c1 c2 c3 c4 c5 c6 c7 c8 c9 c10 K3
  go_wp2_with fail
  refine (first_any V _).mono ?_
  rintro e w5 ⟨rfl, k5⟩
  go_wp2
  go_ret
  exact ⟨rfl, ((K1.out.then K4.out).then k5).below⟩

set_option maxRecDepth 100000 in
set_option maxHeartbeats 16000000 in
theorem all (V : Ways) (w : World) (K : Cf) (hK : okC K) (a : Option Addr) (len c : Nat) (A : Nat → Option Addr) (C : Nat → Nat) (Z : Nat → List Int) (R : Rws w a len A C Z) (hlen : len ≤ maxLen) (hM : mayP (intC K) len Z) (i : Nat) (hi : (i : Int) ≤ 1099511627776) :
    Calls Try.prog 6 #[cfgV K (.slice a len c), .int .i64 (i : Int)] w fun e w' => e = .returned (.bool true) ∧ Below w.heap.size w w' := by
  have HF : Hid (∀ W, Chg no w W → Calls Try.prog 8 #[cfgV K (.slice a len c)] W (FewRes len Z W)) := fun W k => few_any W (intC K) a len c A C Z hlen (Rws.chg R k)
  have HO : Hid (∀ W, Chg no w W → Calls Try.prog 9 #[cfgV K (.slice a len c)] W fun e w' => ∃ a' n' c', e = .returned (.tuple #[layV K (.slice a' n' c'), .int .i64 0]) ∧ Chg no W w') := fun W k => by
    have := V.of1 W (intC K) a len c A C Z (Rws.chg R k) hlen hM
    rw [natC_intC] at this
    exact this
  have HP : Hid (∀ W, Chg no w W → Calls Try.prog 10 #[cfgV K (.slice a len c)] W fun e w' => e = .returned (.bool true) ∧ Chg no W w') := fun W k => V.may W (intC K) a len c A C Z (Rws.chg R k) hlen true (by simp [hM])
  have HFi : Hid (∀ W, Calls Try.prog 7 #[] W fun e w' => e = .returned (.bool true) ∧ Chg no W w') := fun W => first_any V W
  have HP12 : Hid (∀ W a' n' c', Calls Try.prog 12 #[layV K (.slice a' n' c')] W fun e w' => e = .returned (.int .i64 ((payN K : Nat) : Int)) ∧ Chg no W w') := fun W a' n' c' => V.pay W K hK a' n' c'
  have HP14 : Hid (∀ W a' n' c', Calls Try.prog 14 #[layV K (.slice a' n' c')] W fun e w' => e = .returned (.int .i64 ((12 + payN K : Nat) : Int)) ∧ Chg no W w') := fun W a' n' c' => V.cell W K hK a' n' c'
  have HP16 : Hid (∀ W a' n' c', Calls Try.prog 16 #[layV K (.slice a' n' c')] W fun e w' => e = .returned (.int .i64 ((slotsN K : Nat) : Int)) ∧ Chg no W w') := fun W a' n' c' => V.slots W K hK a' n' c'
  have HP18 : Hid (∀ (x : Int), True → ∀ W a' n' c', Calls Try.prog 18 #[layV K (.slice a' n' c'), .int .i64 x] W fun e w' => e = .returned (.int .i64 (batchI K x)) ∧ Chg no W w') := fun x hx W a' n' c' => V.batch W K hK a' n' c' x
  have HP36 : Hid (∀ (x : Int), x ≤ 4611686018427387904 → ∀ W a' n' c', Calls Try.prog 36 #[layV K (.slice a' n' c'), .int .i64 x] W fun e w' => e = .returned (areaV (checkA K x)) ∧ Chg no W w') := fun x hx W a' n' c' => V.check W K hK a' n' c' x hx
  have HP34 : Hid (∀ (x : Int), x ≤ 4611686018427387904 → ∀ W a' n' c', Calls Try.prog 34 #[layV K (.slice a' n' c'), .int .i64 x] W fun e w' => e = .returned (areaV (fullA K x)) ∧ Chg no W w') := fun x hx W a' n' c' => V.full W K hK a' n' c' x hx
  have HP32 : Hid (∀ (x : Int), x ≤ 4611686018427387904 → ∀ W a' n' c', Calls Try.prog 32 #[layV K (.slice a' n' c'), .int .i64 x] W fun e w' => e = .returned (areaV (deltaA K x)) ∧ Chg no W w') := fun x hx W a' n' c' => V.delta W K hK a' n' c' x hx
  have HK : Hid (okC K) := hK
  have hpl := pay_le hK
  have hsl := (slots_le hK).2.1
  have hr4 := hK.r
  have hp8 := hK.p
  have hwr := hK.wr
  have hbR : batchI K (K.r : Int) = K.wr := by
    unfold batchI
    rw [if_neg (by omega), if_pos rfl]
  obtain ⟨P, hP⟩ : ∃ x, payN K = x := ⟨_, rfl⟩
  obtain ⟨S, hS⟩ : ∃ x, slotsN K = x := ⟨_, rfl⟩
  have hall := bs_all K
  rw [hS] at hall
  have HALL : Hid (bs K (K.r + 3) = (S : Int)) := hall
  simp only [hP, hS] at HP12 HP14 HP16 hpl hsl
  have HBR := HP18.out (K.r : Int) trivial
  rw [hbR] at HBR
  have HBR' : Hid (∀ W a' n' c', Calls Try.prog 18 #[layV K (.slice a' n' c'), .int .i64 (K.r : Int)] W fun e w' => e = .returned (.int .i64 (K.wr : Int)) ∧ Chg no W w') := HBR
  have hPi : (P : Int) ≤ 152 := by omega
  have hri : (K.r : Int) ≤ 4 := by omega
  have hpi : (K.p : Int) ≤ 8 := by omega
  have hp1 : 1 ≤ K.p := hp8.1
  have hi0 : ¬ (i : Int) < 0 := by omega
  have hi1 : ¬ (1099511627776 : Int) < i := by omega
  have e39 := eql39s
  have n39 := neq39s
  obtain ⟨h, z, b, r, rd, wr, s, p, q, t⟩ := K
  try simp only at *
  clear hK R hlen hM hP hS hall HBR hbR hwr hpl hsl hp8
  go_enter Try.func6, Try.ntmps6
  go_wp2_with fail
  obtain ⟨w1, hw1⟩ : ∃ w1, w.alloc (cfgO h z b r rd wr s p q t (.slice a len c)) = w1 := ⟨_, rfl⟩
  have hb : w1.heap[w.heap.size]? = some (cfgO h z b r rd wr s p q t (.slice a len c)) := by rw [← hw1]; exact heap_alloc_new w _
  have K1 : Hid (Chg no w w1) := by rw [← hw1]; exact (Chg.refl no w).alloc _
  rw [hw1]
  obtain ⟨gc, hg⟩ : ∃ g, w.heap.size = g := ⟨_, rfl⟩
  rw [hg] at hb ⊢
  have HB : Hid (∀ W, Chg no w1 W → W.heap[gc]? = some (cfgO h z b r rd wr s p q t (.slice a len c))) := fun W k => k.heap hb id
  clear hw1 hg hb
  refine (HFi.out _).mono ?_
  rintro e w2 ⟨rfl, k2⟩
  have K2 : Hid (Chg no w1 w2) := k2
  obtain ⟨c0, c1, c2, c3, c4, c5, c6, c7, c8, c9, c10⟩ := cfg_cells (HB.out w2 k2)
  have HF2 := HF.out w2 (K1.out.then k2)
  clear k2 HF
  go_wp2_with fail
  refine HF2.mono ?_
  rintro e w3 ⟨B, rfl, k3, hB⟩
  have K3 : Hid (Chg no w1 w3) := K2.out.then k3
  clear HF2 k3 hB c0 c1 c2 c3 c4 c5 c6 c7 c8 c9 c10 K2
  cases B
  · go_wp2_with fail
    refine (HFi.out _).mono ?_
    rintro e w4 ⟨rfl, k4⟩
    go_wp2
    go_ret
    exact ⟨rfl, ((K1.out.then K3.out).then k4).below⟩
  obtain ⟨c0, c1, c2, c3, c4, c5, c6, c7, c8, c9, c10⟩ := cfg_cells (HB.out w3 K3.out)
  have HP3 := HP.out w3 (K1.out.then K3.out)
  go_wp2_with fail
  refine HP3.mono ?_
  rintro e wp ⟨rfl, kp⟩
  have Kp : Hid (Chg no w1 wp) := K3.out.then kp
  clear HP3 kp c0 c1 c2 c3 c4 c5 c6 c7 c8 c9 c10 K3 HP
  obtain ⟨c0, c1, c2, c3, c4, c5, c6, c7, c8, c9, c10⟩ := cfg_cells (HB.out wp Kp.out)
  have HO3 := HO.out wp (K1.out.then Kp.out)
  go_wp2_with fail
  refine HO3.mono ?_
  rintro e w4 ⟨a', n', c', rfl, k4⟩
  have K4 : Hid (Chg no w1 w4) := Kp.out.then k4
  clear HO3 k4 c0 c1 c2 c3 c4 c5 c6 c7 c8 c9 c10 Kp HO
  go_wp2_with fail
  obtain ⟨w5, hw5⟩ : ∃ w5, w4.alloc (layO h z b r rd wr s p q t (.slice a' n' c')) = w5 := ⟨_, rfl⟩
  have K5 : Hid (Chg no w1 w5) := by rw [← hw5]; exact K4.out.alloc _
  have hl : w5.heap[w4.heap.size]? = some (layO h z b r rd wr s p q t (.slice a' n' c')) := by rw [← hw5]; exact heap_alloc_new w4 _
  rw [hw5]
  obtain ⟨gl, hgl⟩ : ∃ g, w4.heap.size = g := ⟨_, rfl⟩
  rw [hgl] at hl ⊢
  have HT : Hid (Tb gc gl h z b r rd wr s p q t (.slice a len c) (.slice a' n' c') w5) := ⟨HB.out w5 K5.out, hl⟩
  have KW : Hid (Chg no w w5) := K1.out.then K5.out
  clear hw5 K4 hl hgl HB K5 K1
  go_loopw [7, 8] (fun nv iv wq => ∃ u : Nat, u ≤ r + 3 ∧ nv = .int .i64 (bs ⟨h, z, b, r, rd, wr, s, p, q, t⟩ u) ∧ iv = .int .i64 ((u : Int) - 1) ∧ Chg no w5 wq) (fun _ iv _ => r + 3 - (intOf iv + 1).toNat)
  case atStart => exact ⟨0, by omega, rfl, rfl, Chg.refl no _⟩
  case round =>
    rename World => wl
    obtain ⟨u, hu, rfl, rfl, hC⟩ := hrel
    have HT2 : Hid (Tb gc gl h z b r rd wr s p q t (.slice a len c) (.slice a' n' c') wl) := HT.out.later hC
    have KL : Hid (Chg no w wl) := KW.out.then hC
    have HC : Hid (Chg no w5 wl) := hC
    obtain ⟨c0, c1, c2, c3, c4, c5, c6, c7, c8, c9, c10⟩ := cfg_cells HT2.out.box
    obtain ⟨d0, d1, d2, d3, d4, d5, d6, d7, d8, d9, d10⟩ := lay_cells HT2.out.lay
    clear hC HT
    by_cases hlt : u < r + 3
    · obtain ⟨y, hy⟩ : ∃ y, (u : Int) - 1 = y := ⟨_, rfl⟩
      have hle : y ≤ (r : Int) + 1 := by omega
      have hb8 := bs_le HK.out u
      have hb9 := bs_le HK.out (u + 1)
      have hnx : bs ⟨h, z, b, r, rd, wr, s, p, q, t⟩ (u + 1) = bs ⟨h, z, b, r, rd, wr, s, p, q, t⟩ u + batchI ⟨h, z, b, r, rd, wr, s, p, q, t⟩ y := by rw [← hy]; rfl
      have HCa := HP18.out y trivial wl a' n' c'
      obtain ⟨m, hm⟩ : ∃ m, bs ⟨h, z, b, r, rd, wr, s, p, q, t⟩ u = m := ⟨_, rfl⟩
      obtain ⟨m', hm'⟩ : ∃ m, batchI ⟨h, z, b, r, rd, wr, s, p, q, t⟩ y = m := ⟨_, rfl⟩
      rw [hm, hm'] at hnx
      rw [hm'] at HCa
      rw [hm] at hb8
      rw [hnx] at hb9
      rw [hy, hm]
      have HY : Hid ((u : Int) - 1 = y) := hy
      have HNX : Hid (bs ⟨h, z, b, r, rd, wr, s, p, q, t⟩ (u + 1) = m + m') := hnx
      have q1 : m ≤ 64 := by omega
      have q2 : 0 ≤ m := hb8.1
      have q3 : m + m' ≤ 64 := by omega
      have q4 : 0 ≤ m + m' := hb9.1
      have q5 : -1 ≤ y := by omega
      clear hm hm' hnx hb8 hb9 hy
      go_wp2_with fail
      refine HCa.mono ?_
      rintro e w6 ⟨rfl, k6⟩
      go_wp2
      go_roundw
      case rel => exact ⟨u + 1, by omega, by rw [HNX.out], by congr 1; have := HY.out; omega, HC.out.then k6⟩
      case measure => have := HY.out; simp [intOf]; omega
    · obtain rfl : u = r + 3 := by omega
      have hgt : ¬ ((r + 3 : Nat) : Int) - 1 ≤ (r : Int) + 1 := by omega
      obtain ⟨y, hy⟩ : ∃ y, ((r + 3 : Nat) : Int) - 1 = y := ⟨_, rfl⟩
      rw [hy] at hgt
      rw [hy, HALL.out]
      have HT : Hid (Tb gc gl h z b r rd wr s p q t (.slice a len c) (.slice a' n' c') wl) := HT2.out
      clear hy HC HT2 hu hlt HALL KW d0 d1 d2 d3 d4 d5 d6 d7 d8 d9 d10
      go_wp2_with fail
      go_loopw [9, 10] (fun wv qv wq => ∃ k : Nat, k ≤ p ∧ wv = .int .i64 (((i + k + p - 1) / p - (i + p - 1) / p : Nat) : Int) ∧ qv = .int .i64 ((i + k : Nat) : Int) ∧ Chg no wl wq) (fun _ qv _ => i + p - (intOf qv).toNat)
      case atStart => exact ⟨0, by omega, by rw [Nat.add_zero, Nat.sub_self]; rfl, rfl, Chg.refl no _⟩
      case round =>
        rename World => wm
        obtain ⟨k, hk, rfl, rfl, hC⟩ := hrel
        have HT0 : Hid (Tb gc gl h z b r rd wr s p q t (.slice a len c) (.slice a' n' c') wm) := HT.out.later hC
        clear HT
        have HT : Hid (Tb gc gl h z b r rd wr s p q t (.slice a len c) (.slice a' n' c') wm) := HT0.out
        clear HT0
        have HC : Hid (Chg no wl wm) := hC
        obtain ⟨c0, c1, c2, c3, c4, c5, c6, c7, c8, c9, c10⟩ := cfg_cells HT.out.box
        clear hC
        by_cases hkp : k < p
        · obtain ⟨q0, hq0⟩ : ∃ x, i + k = x := ⟨_, rfl⟩
          have HQ0 : Hid (i + k = q0) := hq0
          have hcond : (q0 : Int) < (i : Int) + (p : Int) := by omega
          have hq62 : (q0 : Int) ≤ 4611686018427387904 := by omega
          have hq622 : (q0 : Int) + 2 * (p : Int) ≤ 4611686018427387904 := by omega
          have hq621 : (q0 : Int) + (p : Int) ≤ 4611686018427387904 := by omega
          have hcast2 : (q0 : Int) + 2 * (p : Int) = ((q0 + 2 * p : Nat) : Int) := by omega
          have hcast1 : (q0 : Int) + (p : Int) = ((q0 + p : Nat) : Int) := by omega
          have hqi : (q0 : Int) ≤ 1099511627784 := by omega
          have hc01 : (i + p - 1) / p ≤ (q0 + p - 1) / p := Nat.div_le_div_right (by omega)
          have hc02 : (q0 + p - 1) / p ≤ (i + p - 1) / p + 1 := by
            rw [← whole_all i hp1]
            exact Nat.div_le_div_right (by omega)
          obtain ⟨m, hcm⟩ : ∃ x, (i + k + p - 1) / p - (i + p - 1) / p = x := ⟨_, rfl⟩
          rw [hcm, hq0]
          rw [hq0] at hcm
          have hm1 : (m : Int) ≤ 1 := by omega
          have hfg := full_next HK.out q0
          obtain ⟨fu, hfu⟩ : ∃ x, (fullA ⟨h, z, b, r, rd, wr, s, p, q, t⟩ (q0 : Int)).1 = x := ⟨_, rfl⟩
          obtain ⟨fv, hfv⟩ : ∃ x, (fullA ⟨h, z, b, r, rd, wr, s, p, q, t⟩ (q0 : Int)).2 = x := ⟨_, rfl⟩
          obtain ⟨gu, hgu⟩ : ∃ x, (fullA ⟨h, z, b, r, rd, wr, s, p, q, t⟩ ((q0 + p : Nat) : Int)).1 = x := ⟨_, rfl⟩
          obtain ⟨gv, hgv⟩ : ∃ x, (fullA ⟨h, z, b, r, rd, wr, s, p, q, t⟩ ((q0 + p : Nat) : Int)).2 = x := ⟨_, rfl⟩
          obtain ⟨du, hdu⟩ : ∃ x, (deltaA ⟨h, z, b, r, rd, wr, s, p, q, t⟩ (q0 : Int)).1 = x := ⟨_, rfl⟩
          obtain ⟨dv, hdv⟩ : ∃ x, (deltaA ⟨h, z, b, r, rd, wr, s, p, q, t⟩ (q0 : Int)).2 = x := ⟨_, rfl⟩
          rw [hfu] at hfg
          have hfg : fu ≠ gu := by rw [← hgu]; exact hfg
          clear hq0
          by_cases hm : q0 % p = 0
          · skip
            have Hc : Hid (∀ W a' n' c', Calls Try.prog 36 #[layV ⟨h, z, b, r, rd, wr, s, p, q, t⟩ (.slice a' n' c'), .int .i64 (q0 : Int)] W fun e w' => e = .returned (.agg #[.int .i64 fu, .int .i64 fv]) ∧ Chg no W w') := by have := HP36.out (q0 : Int) hq62; rw [check_full q0 hm] at this; simp only [areaV, hfu, hfv, hdu, hdv] at this; exact this
            have Hc2 : Hid (∀ W a' n' c', Calls Try.prog 36 #[layV ⟨h, z, b, r, rd, wr, s, p, q, t⟩ (.slice a' n' c'), .int .i64 ((q0 : Int) + 2 * (p : Int))] W fun e w' => e = .returned (.agg #[.int .i64 fu, .int .i64 fv]) ∧ Chg no W w') := by have := HP36.out ((q0 : Int) + 2 * (p : Int)) hq622; rw [hcast2, check_again HK.out q0, check_full q0 hm] at this; rw [hcast2]; simp only [areaV, hfu, hfv, hdu, hdv] at this; exact this
            have Hf : Hid (∀ W a' n' c', Calls Try.prog 34 #[layV ⟨h, z, b, r, rd, wr, s, p, q, t⟩ (.slice a' n' c'), .int .i64 (q0 : Int)] W fun e w' => e = .returned (.agg #[.int .i64 fu, .int .i64 fv]) ∧ Chg no W w') := by have := HP34.out (q0 : Int) hq62; simp only [areaV, hfu, hfv] at this; exact this
            have Hf2 : Hid (∀ W a' n' c', Calls Try.prog 34 #[layV ⟨h, z, b, r, rd, wr, s, p, q, t⟩ (.slice a' n' c'), .int .i64 ((q0 : Int) + (p : Int))] W fun e w' => e = .returned (.agg #[.int .i64 gu, .int .i64 gv]) ∧ Chg no W w') := by have := HP34.out ((q0 : Int) + (p : Int)) hq621; rw [hcast1] at this; rw [hcast1]; simp only [areaV, hgu, hgv] at this; exact this
            have ne2 : ∀ w, (binOp .eql 39 (.agg #[.int .i64 fu, .int .i64 fv]) (.agg #[.int .i64 gu, .int .i64 gv])).run Try.prog w = .ok (.bool false) w := fun w => eql39n w hfg
            have HWS : Hid ((i + (k + 1) + p - 1) / p - (i + p - 1) / p = m + 1) := by show _ = _; rw [show i + (k + 1) + p - 1 = q0 + 1 + p - 1 by have := HQ0.out; omega, whole_step q0 hp1, if_pos hm]; omega
            clear hfu hfv hgu hgv hdu hdv hm hfg hcast1 hcast2 hq62 hq621 hq622 hc01 hc02 hcm
            go_wp2_with fail
            obtain ⟨pK, hpK⟩ : ∃ pK : World → Prop, ∀ w', pK w' ↔ Chg no wm w' := ⟨_, fun _ => Iff.rfl⟩
            obtain ⟨x0, x1, x2, x3, x4, x5, x6, x7, x8, x9, x10, iK⟩ := cfg_facts hpK HT.out.box
            obtain ⟨z0, z1, z2, z3, z4, z5, z6, z7, z8, z9, z10⟩ := lay_facts hpK HT.out.lay
            have HpK : Hid (∀ w', pK w' ↔ Chg no wm w') := hpK
            have Y0 : Chg no wm wm.drew := (Chg.refl no wm).drew
            clear hpK
            refine far.region_farM (fun κ w' => pK w') [2, 5] (by kernel_rfl) (by kernel_rfl) ((HpK.out _).2 Y0) ?_
            intro LP e1' e2' e3'
            refine far.farO_stretch pK 2 0 2 e1' e2' e3' (by kernel_rfl) (by kernel_rfl) (fun κ w' hk1 hk2 hC => hC) ?_
            simp only [List.take_succ_cons, List.take_zero, List.drop_succ_cons, List.drop_zero, Nat.reduceAdd]
            repeat (go_big_quiet_step (fail))
            refine wpQuiet_nil ?_
            refine far.farO_enter e1' e2' 0 rfl rfl 36 #[layV ⟨h, z, b, r, rd, wr, s, p, q, t⟩ (.slice a' n' c'), .int .i64 (q0 : Int)] (by kernel_rfl) (by kernel_rfl) ?_
            refine (Hc.out _ a' n' c').mono ?_
            rintro e s1 ⟨rfl, k1⟩
            have Y1 := Y0.then k1
            refine ⟨_, rfl, (HpK.out _).2 Y1, ?_⟩
            simp only [Act.put, List.setIfInBounds_toArray, List.set_cons_succ, List.set_cons_zero, Nat.reduceAdd]
            refine far.farO_stretch pK 2 0 2 e1' e2' e3' (by kernel_rfl) (by kernel_rfl) (fun κ w' hk1 hk2 hC => hC) ?_
            simp only [List.take_succ_cons, List.take_zero, List.drop_succ_cons, List.drop_zero, Nat.reduceAdd]
            repeat (go_big_quiet_step (fail))
            refine wpQuiet_nil ?_
            refine far.farO_enter e1' e2' 1 rfl rfl 34 #[layV ⟨h, z, b, r, rd, wr, s, p, q, t⟩ (.slice a' n' c'), .int .i64 (q0 : Int)] (by kernel_rfl) (by kernel_rfl) ?_
            refine (Hf.out _ a' n' c').mono ?_
            rintro e s2 ⟨rfl, k2⟩
            have Y2 := Y1.then k2
            refine ⟨_, rfl, (HpK.out _).2 Y2, ?_⟩
            simp only [Act.put, List.setIfInBounds_toArray, List.set_cons_succ, List.set_cons_zero, Nat.reduceAdd]
            refine far.farO_stretch pK 1 0 2 e1' e2' e3' (by kernel_rfl) (by kernel_rfl) (fun κ w' hk1 hk2 hC => hC) ?_
            simp only [List.take_succ_cons, List.take_zero, List.drop_succ_cons, List.drop_zero, Nat.reduceAdd]
            repeat (go_big_quiet_step (fail))
            refine wpQuiet_nil ?_
            refine far.farO_nil ?_
            have KM : Hid (Chg no wl s2) := HC.out.then Y2
            have HT2 : Hid (Tb gc gl h z b r rd wr s p q t (.slice a len c) (.slice a' n' c') s2) := HT.out.later Y2
            clear HT
            have HT : Hid (Tb gc gl h z b r rd wr s p q t (.slice a len c) (.slice a' n' c') s2) := HT2.out
            clear HT2
            clear HpK Y0 x0 z0 x1 z1 x2 z2 x3 z3 x4 z4 x5 z5 x6 z6 x7 z7 x8 z8 x9 z9 x10 z10 iK HC Y1 Y2 k1 k2
            clear e1' e2' e3' LP pK
            go_wp2_with fail
            obtain ⟨pK, hpK⟩ : ∃ pK : World → Prop, ∀ w', pK w' ↔ Chg no s2 w' := ⟨_, fun _ => Iff.rfl⟩
            obtain ⟨x0, x1, x2, x3, x4, x5, x6, x7, x8, x9, x10, iK⟩ := cfg_facts hpK HT.out.box
            obtain ⟨z0, z1, z2, z3, z4, z5, z6, z7, z8, z9, z10⟩ := lay_facts hpK HT.out.lay
            have HpK : Hid (∀ w', pK w' ↔ Chg no s2 w') := hpK
            have Y0 : Chg no s2 s2.drew := (Chg.refl no s2).drew
            clear hpK
            refine far.region_farM (fun κ w' => pK w') [2, 9, 14, 20] (by kernel_rfl) (by kernel_rfl) ((HpK.out _).2 Y0) ?_
            intro LP e1' e2' e3'
            refine far.farO_stretch pK 2 0 4 e1' e2' e3' (by kernel_rfl) (by kernel_rfl) (fun κ w' hk1 hk2 hC => hC) ?_
            simp only [List.take_succ_cons, List.take_zero, List.drop_succ_cons, List.drop_zero, Nat.reduceAdd]
            repeat (go_big_quiet_step (fail))
            refine wpQuiet_nil ?_
            refine far.farO_enter e1' e2' 0 rfl rfl 36 #[layV ⟨h, z, b, r, rd, wr, s, p, q, t⟩ (.slice a' n' c'), .int .i64 (q0 : Int)] (by kernel_rfl) (by kernel_rfl) ?_
            refine (Hc.out _ a' n' c').mono ?_
            rintro e v1 ⟨rfl, k1⟩
            have Y1 := Y0.then k1
            refine ⟨_, rfl, (HpK.out _).2 Y1, ?_⟩
            simp only [Act.put, List.setIfInBounds_toArray, List.set_cons_succ, List.set_cons_zero, Nat.reduceAdd]
            refine far.farO_stretch pK 6 0 4 e1' e2' e3' (by kernel_rfl) (by kernel_rfl) (fun κ w' hk1 hk2 hC => hC) ?_
            simp only [List.take_succ_cons, List.take_zero, List.drop_succ_cons, List.drop_zero, Nat.reduceAdd]
            repeat (go_big_quiet_step (fail))
            refine wpQuiet_nil ?_
            refine far.farO_enter e1' e2' 1 rfl rfl 36 #[layV ⟨h, z, b, r, rd, wr, s, p, q, t⟩ (.slice a' n' c'), .int .i64 ((q0 : Int) + 2 * (p : Int))] (by kernel_rfl) (by kernel_rfl) ?_
            refine (Hc2.out _ a' n' c').mono ?_
            rintro e v2 ⟨rfl, k2⟩
            have Y2 := Y1.then k2
            refine ⟨_, rfl, (HpK.out _).2 Y2, ?_⟩
            simp only [Act.put, List.setIfInBounds_toArray, List.set_cons_succ, List.set_cons_zero, Nat.reduceAdd]
            refine far.farO_stretch pK 4 0 4 e1' e2' e3' (by kernel_rfl) (by kernel_rfl) (fun κ w' hk1 hk2 hC => hC) ?_
            simp only [List.take_succ_cons, List.take_zero, List.drop_succ_cons, List.drop_zero, Nat.reduceAdd]
            repeat (go_big_quiet_step (fail))
            refine wpQuiet_nil ?_
            refine far.farO_enter e1' e2' 2 rfl rfl 34 #[layV ⟨h, z, b, r, rd, wr, s, p, q, t⟩ (.slice a' n' c'), .int .i64 (q0 : Int)] (by kernel_rfl) (by kernel_rfl) ?_
            refine (Hf.out _ a' n' c').mono ?_
            rintro e v3 ⟨rfl, k3⟩
            have Y3 := Y2.then k3
            refine ⟨_, rfl, (HpK.out _).2 Y3, ?_⟩
            simp only [Act.put, List.setIfInBounds_toArray, List.set_cons_succ, List.set_cons_zero, Nat.reduceAdd]
            refine far.farO_stretch pK 5 0 4 e1' e2' e3' (by kernel_rfl) (by kernel_rfl) (fun κ w' hk1 hk2 hC => hC) ?_
            simp only [List.take_succ_cons, List.take_zero, List.drop_succ_cons, List.drop_zero, Nat.reduceAdd]
            repeat (go_big_quiet_step (fail))
            refine wpQuiet_nil ?_
            refine far.farO_enter e1' e2' 3 rfl rfl 34 #[layV ⟨h, z, b, r, rd, wr, s, p, q, t⟩ (.slice a' n' c'), .int .i64 ((q0 : Int) + (p : Int))] (by kernel_rfl) (by kernel_rfl) ?_
            refine (Hf2.out _ a' n' c').mono ?_
            rintro e v4 ⟨rfl, k4⟩
            have Y4 := Y3.then k4
            refine ⟨_, rfl, (HpK.out _).2 Y4, ?_⟩
            simp only [Act.put, List.setIfInBounds_toArray, List.set_cons_succ, List.set_cons_zero, Nat.reduceAdd]
            refine far.farO_stretch pK 2 0 4 e1' e2' e3' (by kernel_rfl) (by kernel_rfl) (fun κ w' hk1 hk2 hC => hC) ?_
            simp only [List.take_succ_cons, List.take_zero, List.drop_succ_cons, List.drop_zero, Nat.reduceAdd]
            repeat (go_big_quiet_step (fail))
            refine wpQuiet_nil ?_
            refine far.farO_nil ?_
            have KN : Hid (Chg no wl v4) := KM.out.then Y4
            clear HpK Y0 x0 z0 x1 z1 x2 z2 x3 z3 x4 z4 x5 z5 x6 z6 x7 z7 x8 z8 x9 z9 x10 z10 iK KM Y1 Y2 Y3 Y4 k1 k2 k3 k4
            clear e1' e2' e3' LP pK
            go_wp2
            go_roundw
            case rel => exact ⟨k + 1, by omega, by rw [HWS.out]; congr 1 <;> omega, by congr 1; have := HQ0.out; omega, KN.out⟩
            case measure => have := HQ0.out; simp [intOf]; omega
          · skip
            have Hc : Hid (∀ W a' n' c', Calls Try.prog 36 #[layV ⟨h, z, b, r, rd, wr, s, p, q, t⟩ (.slice a' n' c'), .int .i64 (q0 : Int)] W fun e w' => e = .returned (.agg #[.int .i64 du, .int .i64 dv]) ∧ Chg no W w') := by have := HP36.out (q0 : Int) hq62; rw [check_delta q0 hm] at this; simp only [areaV, hfu, hfv, hdu, hdv] at this; exact this
            have Hc2 : Hid (∀ W a' n' c', Calls Try.prog 36 #[layV ⟨h, z, b, r, rd, wr, s, p, q, t⟩ (.slice a' n' c'), .int .i64 ((q0 : Int) + 2 * (p : Int))] W fun e w' => e = .returned (.agg #[.int .i64 du, .int .i64 dv]) ∧ Chg no W w') := by have := HP36.out ((q0 : Int) + 2 * (p : Int)) hq622; rw [hcast2, check_again HK.out q0, check_delta q0 hm] at this; rw [hcast2]; simp only [areaV, hfu, hfv, hdu, hdv] at this; exact this
            have Hf : Hid (∀ W a' n' c', Calls Try.prog 34 #[layV ⟨h, z, b, r, rd, wr, s, p, q, t⟩ (.slice a' n' c'), .int .i64 (q0 : Int)] W fun e w' => e = .returned (.agg #[.int .i64 fu, .int .i64 fv]) ∧ Chg no W w') := by have := HP34.out (q0 : Int) hq62; simp only [areaV, hfu, hfv] at this; exact this
            have Hf2 : Hid (∀ W a' n' c', Calls Try.prog 34 #[layV ⟨h, z, b, r, rd, wr, s, p, q, t⟩ (.slice a' n' c'), .int .i64 ((q0 : Int) + (p : Int))] W fun e w' => e = .returned (.agg #[.int .i64 gu, .int .i64 gv]) ∧ Chg no W w') := by have := HP34.out ((q0 : Int) + (p : Int)) hq621; rw [hcast1] at this; rw [hcast1]; simp only [areaV, hgu, hgv] at this; exact this
            have Hd : Hid (∀ W a' n' c', Calls Try.prog 32 #[layV ⟨h, z, b, r, rd, wr, s, p, q, t⟩ (.slice a' n' c'), .int .i64 (q0 : Int)] W fun e w' => e = .returned (.agg #[.int .i64 du, .int .i64 dv]) ∧ Chg no W w') := by have := HP32.out (q0 : Int) hq62; simp only [areaV, hdu, hdv] at this; exact this
            have hdf := delta_full HK.out q0 hm
            rw [hdu, hfu] at hdf
            have ne1 : ∀ w, (binOp .eql 39 (.agg #[.int .i64 du, .int .i64 dv]) (.agg #[.int .i64 fu, .int .i64 fv])).run Try.prog w = .ok (.bool false) w := fun w => eql39n w (by omega)
            have ne2 : ∀ w, (binOp .eql 39 (.agg #[.int .i64 fu, .int .i64 fv]) (.agg #[.int .i64 gu, .int .i64 gv])).run Try.prog w = .ok (.bool false) w := fun w => eql39n w hfg
            have HWS : Hid ((i + (k + 1) + p - 1) / p - (i + p - 1) / p = m + 0) := by show _ = _; rw [show i + (k + 1) + p - 1 = q0 + 1 + p - 1 by have := HQ0.out; omega, whole_step q0 hp1, if_neg hm]; omega
            clear hfu hfv hgu hgv hdu hdv hm hfg hcast1 hcast2 hq62 hq621 hq622 hc01 hc02 hcm hdf
            go_wp2_with fail
            obtain ⟨pK, hpK⟩ : ∃ pK : World → Prop, ∀ w', pK w' ↔ Chg no wm w' := ⟨_, fun _ => Iff.rfl⟩
            obtain ⟨x0, x1, x2, x3, x4, x5, x6, x7, x8, x9, x10, iK⟩ := cfg_facts hpK HT.out.box
            obtain ⟨z0, z1, z2, z3, z4, z5, z6, z7, z8, z9, z10⟩ := lay_facts hpK HT.out.lay
            have HpK : Hid (∀ w', pK w' ↔ Chg no wm w') := hpK
            have Y0 : Chg no wm wm.drew := (Chg.refl no wm).drew
            clear hpK
            refine far.region_farM (fun κ w' => pK w') [2, 5] (by kernel_rfl) (by kernel_rfl) ((HpK.out _).2 Y0) ?_
            intro LP e1' e2' e3'
            refine far.farO_stretch pK 2 0 2 e1' e2' e3' (by kernel_rfl) (by kernel_rfl) (fun κ w' hk1 hk2 hC => hC) ?_
            simp only [List.take_succ_cons, List.take_zero, List.drop_succ_cons, List.drop_zero, Nat.reduceAdd]
            repeat (go_big_quiet_step (fail))
            refine wpQuiet_nil ?_
            refine far.farO_enter e1' e2' 0 rfl rfl 36 #[layV ⟨h, z, b, r, rd, wr, s, p, q, t⟩ (.slice a' n' c'), .int .i64 (q0 : Int)] (by kernel_rfl) (by kernel_rfl) ?_
            refine (Hc.out _ a' n' c').mono ?_
            rintro e s1 ⟨rfl, k1⟩
            have Y1 := Y0.then k1
            refine ⟨_, rfl, (HpK.out _).2 Y1, ?_⟩
            simp only [Act.put, List.setIfInBounds_toArray, List.set_cons_succ, List.set_cons_zero, Nat.reduceAdd]
            refine far.farO_stretch pK 2 0 2 e1' e2' e3' (by kernel_rfl) (by kernel_rfl) (fun κ w' hk1 hk2 hC => hC) ?_
            simp only [List.take_succ_cons, List.take_zero, List.drop_succ_cons, List.drop_zero, Nat.reduceAdd]
            repeat (go_big_quiet_step (fail))
            refine wpQuiet_nil ?_
            refine far.farO_enter e1' e2' 1 rfl rfl 34 #[layV ⟨h, z, b, r, rd, wr, s, p, q, t⟩ (.slice a' n' c'), .int .i64 (q0 : Int)] (by kernel_rfl) (by kernel_rfl) ?_
            refine (Hf.out _ a' n' c').mono ?_
            rintro e s2 ⟨rfl, k2⟩
            have Y2 := Y1.then k2
            refine ⟨_, rfl, (HpK.out _).2 Y2, ?_⟩
            simp only [Act.put, List.setIfInBounds_toArray, List.set_cons_succ, List.set_cons_zero, Nat.reduceAdd]
            refine far.farO_stretch pK 1 0 2 e1' e2' e3' (by kernel_rfl) (by kernel_rfl) (fun κ w' hk1 hk2 hC => hC) ?_
            simp only [List.take_succ_cons, List.take_zero, List.drop_succ_cons, List.drop_zero, Nat.reduceAdd]
            repeat (go_big_quiet_step (fail))
            refine wpQuiet_nil ?_
            refine far.farO_nil ?_
            have KM : Hid (Chg no wl s2) := HC.out.then Y2
            have HT2 : Hid (Tb gc gl h z b r rd wr s p q t (.slice a len c) (.slice a' n' c') s2) := HT.out.later Y2
            clear HT
            have HT : Hid (Tb gc gl h z b r rd wr s p q t (.slice a len c) (.slice a' n' c') s2) := HT2.out
            clear HT2
            clear HpK Y0 x0 z0 x1 z1 x2 z2 x3 z3 x4 z4 x5 z5 x6 z6 x7 z7 x8 z8 x9 z9 x10 z10 iK HC Y1 Y2 k1 k2
            clear e1' e2' e3' LP pK
            go_wp2_with fail
            obtain ⟨pK, hpK⟩ : ∃ pK : World → Prop, ∀ w', pK w' ↔ Chg no s2 w' := ⟨_, fun _ => Iff.rfl⟩
            obtain ⟨x0, x1, x2, x3, x4, x5, x6, x7, x8, x9, x10, iK⟩ := cfg_facts hpK HT.out.box
            obtain ⟨z0, z1, z2, z3, z4, z5, z6, z7, z8, z9, z10⟩ := lay_facts hpK HT.out.lay
            have HpK : Hid (∀ w', pK w' ↔ Chg no s2 w') := hpK
            have Y0 : Chg no s2 s2.drew := (Chg.refl no s2).drew
            clear hpK
            refine far.region_farM (fun κ w' => pK w') [2, 5] (by kernel_rfl) (by kernel_rfl) ((HpK.out _).2 Y0) ?_
            intro LP e1' e2' e3'
            refine far.farO_stretch pK 2 0 2 e1' e2' e3' (by kernel_rfl) (by kernel_rfl) (fun κ w' hk1 hk2 hC => hC) ?_
            simp only [List.take_succ_cons, List.take_zero, List.drop_succ_cons, List.drop_zero, Nat.reduceAdd]
            repeat (go_big_quiet_step (fail))
            refine wpQuiet_nil ?_
            refine far.farO_enter e1' e2' 0 rfl rfl 36 #[layV ⟨h, z, b, r, rd, wr, s, p, q, t⟩ (.slice a' n' c'), .int .i64 (q0 : Int)] (by kernel_rfl) (by kernel_rfl) ?_
            refine (Hc.out _ a' n' c').mono ?_
            rintro e u1 ⟨rfl, k1⟩
            have Y1 := Y0.then k1
            refine ⟨_, rfl, (HpK.out _).2 Y1, ?_⟩
            simp only [Act.put, List.setIfInBounds_toArray, List.set_cons_succ, List.set_cons_zero, Nat.reduceAdd]
            refine far.farO_stretch pK 2 0 2 e1' e2' e3' (by kernel_rfl) (by kernel_rfl) (fun κ w' hk1 hk2 hC => hC) ?_
            simp only [List.take_succ_cons, List.take_zero, List.drop_succ_cons, List.drop_zero, Nat.reduceAdd]
            repeat (go_big_quiet_step (fail))
            refine wpQuiet_nil ?_
            refine far.farO_enter e1' e2' 1 rfl rfl 32 #[layV ⟨h, z, b, r, rd, wr, s, p, q, t⟩ (.slice a' n' c'), .int .i64 (q0 : Int)] (by kernel_rfl) (by kernel_rfl) ?_
            refine (Hd.out _ a' n' c').mono ?_
            rintro e u2 ⟨rfl, k2⟩
            have Y2 := Y1.then k2
            refine ⟨_, rfl, (HpK.out _).2 Y2, ?_⟩
            simp only [Act.put, List.setIfInBounds_toArray, List.set_cons_succ, List.set_cons_zero, Nat.reduceAdd]
            refine far.farO_stretch pK 1 0 2 e1' e2' e3' (by kernel_rfl) (by kernel_rfl) (fun κ w' hk1 hk2 hC => hC) ?_
            simp only [List.take_succ_cons, List.take_zero, List.drop_succ_cons, List.drop_zero, Nat.reduceAdd]
            repeat (go_big_quiet_step (fail))
            refine wpQuiet_nil ?_
            refine far.farO_nil ?_
            have KM2 : Hid (Chg no wl u2) := KM.out.then Y2
            have HT2 : Hid (Tb gc gl h z b r rd wr s p q t (.slice a len c) (.slice a' n' c') u2) := HT.out.later Y2
            clear HT
            have HT : Hid (Tb gc gl h z b r rd wr s p q t (.slice a len c) (.slice a' n' c') u2) := HT2.out
            clear HT2
            clear HpK Y0 x0 z0 x1 z1 x2 z2 x3 z3 x4 z4 x5 z5 x6 z6 x7 z7 x8 z8 x9 z9 x10 z10 iK KM Y1 Y2 k1 k2
            clear e1' e2' e3' LP pK
            go_wp2_with fail
            obtain ⟨pK, hpK⟩ : ∃ pK : World → Prop, ∀ w', pK w' ↔ Chg no u2 w' := ⟨_, fun _ => Iff.rfl⟩
            obtain ⟨x0, x1, x2, x3, x4, x5, x6, x7, x8, x9, x10, iK⟩ := cfg_facts hpK HT.out.box
            obtain ⟨z0, z1, z2, z3, z4, z5, z6, z7, z8, z9, z10⟩ := lay_facts hpK HT.out.lay
            have HpK : Hid (∀ w', pK w' ↔ Chg no u2 w') := hpK
            have Y0 : Chg no u2 u2.drew := (Chg.refl no u2).drew
            clear hpK
            refine far.region_farM (fun κ w' => pK w') [2, 9, 14, 20] (by kernel_rfl) (by kernel_rfl) ((HpK.out _).2 Y0) ?_
            intro LP e1' e2' e3'
            refine far.farO_stretch pK 2 0 4 e1' e2' e3' (by kernel_rfl) (by kernel_rfl) (fun κ w' hk1 hk2 hC => hC) ?_
            simp only [List.take_succ_cons, List.take_zero, List.drop_succ_cons, List.drop_zero, Nat.reduceAdd]
            repeat (go_big_quiet_step (fail))
            refine wpQuiet_nil ?_
            refine far.farO_enter e1' e2' 0 rfl rfl 36 #[layV ⟨h, z, b, r, rd, wr, s, p, q, t⟩ (.slice a' n' c'), .int .i64 (q0 : Int)] (by kernel_rfl) (by kernel_rfl) ?_
            refine (Hc.out _ a' n' c').mono ?_
            rintro e v1 ⟨rfl, k1⟩
            have Y1 := Y0.then k1
            refine ⟨_, rfl, (HpK.out _).2 Y1, ?_⟩
            simp only [Act.put, List.setIfInBounds_toArray, List.set_cons_succ, List.set_cons_zero, Nat.reduceAdd]
            refine far.farO_stretch pK 6 0 4 e1' e2' e3' (by kernel_rfl) (by kernel_rfl) (fun κ w' hk1 hk2 hC => hC) ?_
            simp only [List.take_succ_cons, List.take_zero, List.drop_succ_cons, List.drop_zero, Nat.reduceAdd]
            repeat (go_big_quiet_step (fail))
            refine wpQuiet_nil ?_
            refine far.farO_enter e1' e2' 1 rfl rfl 36 #[layV ⟨h, z, b, r, rd, wr, s, p, q, t⟩ (.slice a' n' c'), .int .i64 ((q0 : Int) + 2 * (p : Int))] (by kernel_rfl) (by kernel_rfl) ?_
            refine (Hc2.out _ a' n' c').mono ?_
            rintro e v2 ⟨rfl, k2⟩
            have Y2 := Y1.then k2
            refine ⟨_, rfl, (HpK.out _).2 Y2, ?_⟩
            simp only [Act.put, List.setIfInBounds_toArray, List.set_cons_succ, List.set_cons_zero, Nat.reduceAdd]
            refine far.farO_stretch pK 4 0 4 e1' e2' e3' (by kernel_rfl) (by kernel_rfl) (fun κ w' hk1 hk2 hC => hC) ?_
            simp only [List.take_succ_cons, List.take_zero, List.drop_succ_cons, List.drop_zero, Nat.reduceAdd]
            repeat (go_big_quiet_step (fail))
            refine wpQuiet_nil ?_
            refine far.farO_enter e1' e2' 2 rfl rfl 34 #[layV ⟨h, z, b, r, rd, wr, s, p, q, t⟩ (.slice a' n' c'), .int .i64 (q0 : Int)] (by kernel_rfl) (by kernel_rfl) ?_
            refine (Hf.out _ a' n' c').mono ?_
            rintro e v3 ⟨rfl, k3⟩
            have Y3 := Y2.then k3
            refine ⟨_, rfl, (HpK.out _).2 Y3, ?_⟩
            simp only [Act.put, List.setIfInBounds_toArray, List.set_cons_succ, List.set_cons_zero, Nat.reduceAdd]
            refine far.farO_stretch pK 5 0 4 e1' e2' e3' (by kernel_rfl) (by kernel_rfl) (fun κ w' hk1 hk2 hC => hC) ?_
            simp only [List.take_succ_cons, List.take_zero, List.drop_succ_cons, List.drop_zero, Nat.reduceAdd]
            repeat (go_big_quiet_step (fail))
            refine wpQuiet_nil ?_
            refine far.farO_enter e1' e2' 3 rfl rfl 34 #[layV ⟨h, z, b, r, rd, wr, s, p, q, t⟩ (.slice a' n' c'), .int .i64 ((q0 : Int) + (p : Int))] (by kernel_rfl) (by kernel_rfl) ?_
            refine (Hf2.out _ a' n' c').mono ?_
            rintro e v4 ⟨rfl, k4⟩
            have Y4 := Y3.then k4
            refine ⟨_, rfl, (HpK.out _).2 Y4, ?_⟩
            simp only [Act.put, List.setIfInBounds_toArray, List.set_cons_succ, List.set_cons_zero, Nat.reduceAdd]
            refine far.farO_stretch pK 2 0 4 e1' e2' e3' (by kernel_rfl) (by kernel_rfl) (fun κ w' hk1 hk2 hC => hC) ?_
            simp only [List.take_succ_cons, List.take_zero, List.drop_succ_cons, List.drop_zero, Nat.reduceAdd]
            repeat (go_big_quiet_step (fail))
            refine wpQuiet_nil ?_
            refine far.farO_nil ?_
            have KN : Hid (Chg no wl v4) := KM2.out.then Y4
            clear HpK Y0 x0 z0 x1 z1 x2 z2 x3 z3 x4 z4 x5 z5 x6 z6 x7 z7 x8 z8 x9 z9 x10 z10 iK KM2 Y1 Y2 Y3 Y4 k1 k2 k3 k4
            clear e1' e2' e3' LP pK
            go_wp2
            go_roundw
            case rel => exact ⟨k + 1, by omega, by rw [HWS.out]; congr 1 <;> omega, by congr 1; have := HQ0.out; omega, KN.out⟩
            case measure => have := HQ0.out; simp [intOf]; omega
        · obtain rfl : k = p := by omega
          obtain ⟨y, hy⟩ : ∃ y, ((i + k : Nat) : Int) = y := ⟨_, rfl⟩
          have hcond : ¬ y < (i : Int) + (k : Int) := by omega
          have hone : (i + k + k - 1) / k - (i + k - 1) / k = 1 := by rw [whole_all i hp1]; omega
          rw [hy, hone]
          have KE : Hid (Chg no w wm) := KL.out.then HC.out
          clear hy hone hk hkp HC KL
          go_wp2_with fail
          obtain ⟨pK, hpK⟩ : ∃ pK : World → Prop, ∀ w', pK w' ↔ Chg no wm w' := ⟨_, fun _ => Iff.rfl⟩
          obtain ⟨x0, x1, x2, x3, x4, x5, x6, x7, x8, x9, x10, iK⟩ := cfg_facts hpK HT.out.box
          obtain ⟨z0, z1, z2, z3, z4, z5, z6, z7, z8, z9, z10⟩ := lay_facts hpK HT.out.lay
          have HpK : Hid (∀ w', pK w' ↔ Chg no wm w') := hpK
          have Y0 : Chg no wm wm.drew := (Chg.refl no wm).drew
          clear hpK
          refine far.region_farM (fun κ w' => pK w') [0, 4, 15, 22, 24] (by kernel_rfl) (by kernel_rfl) ((HpK.out _).2 Y0) ?_
          intro LP e1' e2' e3'
          refine far.farO_enter e1' e2' 0 rfl rfl 7 #[] (by kernel_rfl) (by kernel_rfl) ?_
          refine (HFi.out _).mono ?_
          rintro e v1 ⟨rfl, k1⟩
          have Y1 := Y0.then k1
          refine ⟨_, rfl, (HpK.out _).2 Y1, ?_⟩
          simp only [Act.put, List.setIfInBounds_toArray, List.set_cons_succ, List.set_cons_zero, Nat.reduceAdd]
          refine far.farO_stretch pK 3 0 5 e1' e2' e3' (by kernel_rfl) (by kernel_rfl) (fun κ w' hk1 hk2 hC => hC) ?_
          simp only [List.take_succ_cons, List.take_zero, List.drop_succ_cons, List.drop_zero, Nat.reduceAdd]
          repeat (go_big_quiet_step (fail))
          refine wpQuiet_nil ?_
          refine far.farO_enter e1' e2' 1 rfl rfl 16 #[layV ⟨h, z, b, r, rd, wr, s, k, q, t⟩ (.slice a' n' c')] (by kernel_rfl) (by kernel_rfl) ?_
          refine (HP16.out _ a' n' c').mono ?_
          rintro e v2 ⟨rfl, k2⟩
          have Y2 := Y1.then k2
          refine ⟨_, rfl, (HpK.out _).2 Y2, ?_⟩
          simp only [Act.put, List.setIfInBounds_toArray, List.set_cons_succ, List.set_cons_zero, Nat.reduceAdd]
          refine far.farO_stretch pK 10 0 5 e1' e2' e3' (by kernel_rfl) (by kernel_rfl) (fun κ w' hk1 hk2 hC => hC) ?_
          simp only [List.take_succ_cons, List.take_zero, List.drop_succ_cons, List.drop_zero, Nat.reduceAdd]
          repeat (go_big_quiet_step (fail))
          refine wpQuiet_nil ?_
          refine far.farO_enter e1' e2' 2 rfl rfl 18 #[layV ⟨h, z, b, r, rd, wr, s, k, q, t⟩ (.slice a' n' c'), .int .i64 (r : Int)] (by kernel_rfl) (by kernel_rfl) ?_
          refine (HBR'.out _ a' n' c').mono ?_
          rintro e v3 ⟨rfl, k3⟩
          have Y3 := Y2.then k3
          refine ⟨_, rfl, (HpK.out _).2 Y3, ?_⟩
          simp only [Act.put, List.setIfInBounds_toArray, List.set_cons_succ, List.set_cons_zero, Nat.reduceAdd]
          refine far.farO_stretch pK 6 0 5 e1' e2' e3' (by kernel_rfl) (by kernel_rfl) (fun κ w' hk1 hk2 hC => hC) ?_
          simp only [List.take_succ_cons, List.take_zero, List.drop_succ_cons, List.drop_zero, Nat.reduceAdd]
          repeat (go_big_quiet_step (fail))
          refine wpQuiet_nil ?_
          refine far.farO_enter e1' e2' 3 rfl rfl 14 #[layV ⟨h, z, b, r, rd, wr, s, k, q, t⟩ (.slice a' n' c')] (by kernel_rfl) (by kernel_rfl) ?_
          refine (HP14.out _ a' n' c').mono ?_
          rintro e v4 ⟨rfl, k4⟩
          have Y4 := Y3.then k4
          refine ⟨_, rfl, (HpK.out _).2 Y4, ?_⟩
          simp only [Act.put, List.setIfInBounds_toArray, List.set_cons_succ, List.set_cons_zero, Nat.reduceAdd]
          refine far.farO_stretch pK 1 0 5 e1' e2' e3' (by kernel_rfl) (by kernel_rfl) (fun κ w' hk1 hk2 hC => hC) ?_
          simp only [List.take_succ_cons, List.take_zero, List.drop_succ_cons, List.drop_zero, Nat.reduceAdd]
          repeat (go_big_quiet_step (fail))
          refine wpQuiet_nil ?_
          refine far.farO_enter e1' e2' 4 rfl rfl 12 #[layV ⟨h, z, b, r, rd, wr, s, k, q, t⟩ (.slice a' n' c')] (by kernel_rfl) (by kernel_rfl) ?_
          refine (HP12.out _ a' n' c').mono ?_
          rintro e v5 ⟨rfl, k5⟩
          have Y5 := Y4.then k5
          refine ⟨_, rfl, (HpK.out _).2 Y5, ?_⟩
          simp only [Act.put, List.setIfInBounds_toArray, List.set_cons_succ, List.set_cons_zero, Nat.reduceAdd]
          refine far.farO_stretch pK 4 0 5 e1' e2' e3' (by kernel_rfl) (by kernel_rfl) (fun κ w' hk1 hk2 hC => hC) ?_
          simp only [List.take_succ_cons, List.take_zero, List.drop_succ_cons, List.drop_zero, Nat.reduceAdd]
          repeat (go_big_quiet_step (fail))
          refine wpQuiet_nil ?_
          refine far.farO_nil ?_
          go_wp2
          go_ret
          exact ⟨ret_bool (beq_iff_eq.2 (by omega)), (KE.out.then Y5).below⟩

end Go.Proofs.Ytfhpdcimdeilpaa.batches
