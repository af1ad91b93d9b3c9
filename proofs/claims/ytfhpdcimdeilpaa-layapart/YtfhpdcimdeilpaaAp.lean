/- The law LayApart, walked. -/
import Derived.Test.YtfhpdcimdeilpaaApl
import Derived.Test.YtfhpdcimdeilpaaIct
import Derived.Deep.OwnRows
namespace Go.Proofs.Ytfhpdcimdeilpaa.apart
open Go.ChangeShapes Go.WideShapes Go.ChangeAt Go.RowKit Go.Proofs.Ytfhpdcimdeilpaa.hp Go.Proofs.Ytfhpdcimdeilpaa.st Go.Proofs.Ytfhpdcimdeilpaa.tells
set_option linter.unusedVariables false
set_option linter.unusedSimpArgs false

theorem info4 : (Try.prog.info? 4).map (fun i => (i.zero, i.size, i.bytes)) = some (some (.bool false), 1, 1) := by kernel_rfl

theorem made_row (w : World) (T : Nat) (hT : T ≤ 65536) (P : Nat → Bool) (hP : ∀ k, P k = false) : Mks 0 w.heap.size T P (w.alloc (.cells (madeCells #[Value.bool false] T) 4)) := by
  have e : mk T P = List.replicate T false := List.eq_replicate_iff.2 ⟨mk_len T P, fun b hb => by
    obtain ⟨k, _, rfl⟩ := List.mem_map.1 hb
    exact hP k⟩
  have e2 : madeCells #[Value.bool false] T = (List.replicate T (Value.bool false)).toArray := by rw [← toList_madeCells_one]
  unfold Mks
  rw [e, List.map_replicate, e2]
  refine ⟨by simp, .inr ⟨_, T, _, rfl, Nat.zero_le _, heap_alloc_new w _, Nat.le_refl _, by unfold maxLen; omega, by simp, by simp⟩⟩

theorem log_val {K : Cf} (i : Nat) (h : i < slotsN K) : logA K (i : Int) = (((2 + i * cLog K : Nat) : Int), (cLog K : Int)) := by
  unfold logA
  rw [if_pos ⟨by omega, by omega⟩, Int.toNat_natCast]
theorem clog0_val (K : Cf) : clogA K 0 = (((st1 K : Nat) : Int), (cClog K : Int)) := by
  unfold clogA
  rw [if_pos (by omega), show (0 : Int).toNat % 2 * cClog K = 0 by rw [show (0 : Int).toNat % 2 = 0 from rfl, Nat.zero_mul], Nat.add_zero]
theorem clog1_val (K : Cf) : clogA K 1 = (((st1 K + cClog K : Nat) : Int), (cClog K : Int)) := by
  unfold clogA
  rw [if_pos (by omega), show (1 : Int).toNat % 2 * cClog K = cClog K by rw [show (1 : Int).toNat % 2 = 1 from rfl, Nat.one_mul]]
theorem full0_val (K : Cf) : fullA K 0 = (((st3 K : Nat) : Int), (cFull K : Int)) := by
  unfold fullA
  rw [if_pos (by omega), show (0 : Int).toNat / K.p % 2 * cFull K = 0 by rw [show (0 : Int).toNat / K.p = 0 from Nat.zero_div _, Nat.zero_mod, Nat.zero_mul], Nat.add_zero]
theorem fullp_val {K : Cf} (hK : okC K) : fullA K (K.p : Int) = (((st3 K + cFull K : Nat) : Int), (cFull K : Int)) := by
  unfold fullA
  rw [if_pos (by omega), Int.toNat_natCast, Nat.div_self hK.p.1]
  simp
theorem delta_val {K : Cf} (hK : okC K) (i : Nat) (h1 : 1 ≤ i) (h2 : i < 2 * K.p) (h3 : i ≠ K.p) : deltaA K (i : Int) = (((st2 K + dIx K.p i * cDelta K : Nat) : Int), (cDelta K : Int)) := by
  obtain ⟨e1, e2, _⟩ := dAt_ix hK i h1 h2 h3
  unfold deltaA
  rw [Int.toNat_natCast, if_pos ⟨by omega, e1⟩, e2]
theorem bucket_val {K : Cf} (i : Nat) (v : Nat) (h : i < bucketsN K) (hv : v ≤ 1) : bucketA K (i : Int) (v : Int) = ((st4 K + 2 * i + v : Nat) : Int) := by
  unfold bucketA
  rw [if_pos ⟨by omega, by omega, by omega, by omega⟩]
  omega

theorem shl_h {h B : Nat} (hB : 2 ^ (h + 1) - 1 = B) (hb : B ≤ 127) : wrap64 (2 * 2 ^ h) = (B : Int) + 1 := by
  have h1 := Nat.two_pow_pos (h + 1)
  have e : (2 : Int) * 2 ^ h = ((B + 1 : Nat) : Int) := by
    rw [show B + 1 = 2 ^ (h + 1) by omega, Nat.pow_succ, Int.natCast_mul, Int.mul_comm]
    simp
  rw [e, IntWalk.wrap64_in _ ⟨by omega, by omega⟩]
  omega

theorem check_in {K : Cf} (hK : okC K) (q : Nat) : 0 ≤ (checkA K (q : Int)).1 ∧ (checkA K (q : Int)).1 ≤ 2000 ∧ 0 ≤ (checkA K (q : Int)).2 ∧ (checkA K (q : Int)).2 ≤ 92 := by
  obtain ⟨l1, l2⟩ := check_le hK (q : Int)
  have st := st_le hK
  have hf := (small hK).full
  have t4 : st4 K = st3 K + 2 * cFull K := rfl
  by_cases h : q % K.p = 0
  · rw [check_full q h] at l1 l2 ⊢
    unfold fullA at l1 l2 ⊢
    rw [Int.toNat_natCast, if_pos (by omega)] at l1 l2 ⊢
    have : q / K.p % 2 * cFull K ≤ 1 * cFull K := Nat.mul_le_mul_right _ (by omega)
    simp only at l1 l2 ⊢
    omega
  · have := dAt_in hK q h
    rw [check_delta q h] at l1 l2 ⊢
    unfold deltaA at l1 l2 ⊢
    rw [Int.toNat_natCast, if_pos ⟨by omega, h⟩] at l1 l2 ⊢
    simp only at l1 l2 ⊢
    omega

theorem checks (V : Ways) (K : Cf) (hK : okC K) : ∃ ck : Nat → Int × Int, Hid (∀ q : Nat, (q : Int) ≤ 4611686018427387904 → ∀ W a' n' c', Calls Try.prog 36 #[layV K (.slice a' n' c'), .int .i64 (q : Int)] W fun e w' => e = .returned (areaV (ck q)) ∧ Chg no W w') ∧ Hid (∀ m q : Nat, m - m % K.p ≤ q → q ≤ m → (ck q).1 + (ck q).2 ≤ (ck (m + 1)).1 ∨ (ck (m + 1)).1 + (ck (m + 1)).2 ≤ (ck q).1) ∧ Hid (∀ q, 0 ≤ (ck q).1 ∧ (ck q).1 ≤ 2000 ∧ 0 ≤ (ck q).2 ∧ (ck q).2 ≤ 92) :=
  ⟨fun q => checkA K (q : Int), fun q hq W a' n' c' => V.check W K hK a' n' c' q hq, fun m q h1 h2 => check_apart hK m q h1 h2, fun q => check_in hK q⟩

theorem clogs (V : Ways) (K : Cf) (hK : okC K) : ∃ cg : Nat → Int × Int, Hid (∀ q : Nat, (q : Int) ≤ 4611686018427387904 → ∀ W a' n' c', Calls Try.prog 30 #[layV K (.slice a' n' c'), .int .i64 (q : Int)] W fun e w' => e = .returned (areaV (cg q)) ∧ Chg no W w') ∧ Hid (∀ m : Nat, (cg m).1 ≠ (cg (m + 1)).1 ∧ cg (m + 2) = cg m) := by
  have hf := (small hK).clog
  have e : ∀ x : Nat, clogA K (x : Int) = (((st1 K + x % 2 * cClog K : Nat) : Int), (cClog K : Int)) := fun x => by
    unfold clogA
    rw [Int.toNat_natCast, if_pos (by omega)]
  refine ⟨fun q => clogA K (q : Int), fun q hq W a' n' c' => V.clog W K hK a' n' c' q hq, fun m => ⟨?_, ?_⟩⟩
  · simp only [e]
    have hc : m % 2 = 0 ∧ (m + 1) % 2 = 1 ∨ m % 2 = 1 ∧ (m + 1) % 2 = 0 := by omega
    rcases hc with ⟨a, b⟩ | ⟨a, b⟩ <;> rw [a, b] <;> simp <;> omega
  · simp only [e]
    rw [show (m + 2) % 2 = m % 2 by omega]

/-- Both boxes, and the row of marks. -/
structure Apt (w : World) (gc gl g : Nat) (h z b r rd wr s p q t : Nat) (tv tv' : Value) (T : Nat) (P : Nat → Bool) (W : World) : Prop where
  box : W.heap[gc]? = some (cfgO h z b r rd wr s p q t tv)
  lay : W.heap[gl]? = some (layO h z b r rd wr s p q t tv')
  mks : Mks 0 g T P W
  chg : Chg no w W
  ne : gc ≠ g ∧ gl ≠ g ∧ w.heap.size ≤ g

section
variable {w : World} {gc gl g h z b r rd wr s p q t : Nat} {tv tv' : Value} {T : Nat} {P P' : Nat → Bool} {W W' : World}
theorem Apt.later (A : Apt w gc gl g h z b r rd wr s p q t tv tv' T P W) (k : Chg no W W') : Apt w gc gl g h z b r rd wr s p q t tv tv' T P W' := ⟨k.heap A.box id, k.heap A.lay id, A.mks.chg k id, A.chg.then k, A.ne⟩
theorem Apt.mark (A : Apt w gc gl g h z b r rd wr s p q t tv tv' T P W) (M : Mks 0 g T P' W') (k : Chg (fun k => k = g) W W') : Apt w gc gl g h z b r rd wr s p q t tv tv' T P' W' := ⟨k.heap A.box A.ne.1, k.heap A.lay A.ne.2.1, M, A.chg.trans k (fun j hj => .inr (by rw [hj]; exact A.ne.2.2)), A.ne⟩
theorem Apt.as (A : Apt w gc gl g h z b r rd wr s p q t tv tv' T P W) (e : P = P') : Apt w gc gl g h z b r rd wr s p q t tv tv' T P' W := by rw [← e]; exact A
end

theorem eql39s (w : World) (a b : Int) : (binOp .eql 39 (.agg #[.int .i64 a, .int .i64 b]) (.agg #[.int .i64 a, .int .i64 b])).run Try.prog w = .ok (.bool true) w := by
  rw [eql39]
  simp

theorem neq39n (w : World) {a b c d : Int} (h : a ≠ c) : (binOp .neq 39 (.agg #[.int .i64 a, .int .i64 b]) (.agg #[.int .i64 c, .int .i64 d])).run Try.prog w = .ok (.bool true) w := by
  rw [neq39]
  simp [h]

set_option maxRecDepth 100000 in
set_option maxHeartbeats 8000000 in
theorem nay (V : Ways) (w : World) (I : Ic) (a : Option Addr) (len c : Nat) (A : Nat → Option Addr) (C : Nat → Nat) (Z : Nat → List Int) (R : Rws w a len A C Z) (hlen : len ≤ maxLen) (hM : ¬ mayP I len Z) (i : Int)  :
    Calls Try.prog 4 #[cfgI I (.slice a len c), .int .i64 i] w fun e w' => e = .returned (.bool true) ∧ Below w.heap.size w w' := by
  have HF : Hid (∀ W, Chg no w W → Calls Try.prog 8 #[cfgI I (.slice a len c)] W (FewRes len Z W)) := fun W k => few_any W I a len c A C Z hlen (Rws.chg R k)
  have HP : Hid (∀ W, Chg no w W → Calls Try.prog 10 #[cfgI I (.slice a len c)] W fun e w' => e = .returned (.bool false) ∧ Chg no W w') := fun W k => V.may W I a len c A C Z (Rws.chg R k) hlen false (by simp [hM])
  obtain ⟨h, z, b, r, rd, wt, s, p, q, t⟩ := I
  clear R hlen hM
  go_enter Try.func4, Try.ntmps4
  go_wp2_with fail
  obtain ⟨w1, hw1⟩ : ∃ w1, w.alloc (cfgOI h z b r rd wt s p q t (.slice a len c)) = w1 := ⟨_, rfl⟩
  have hb : w1.heap[w.heap.size]? = some (cfgOI h z b r rd wt s p q t (.slice a len c)) := by rw [← hw1]; exact heap_alloc_new w _
  have K1 : Hid (Chg no w w1) := by rw [← hw1]; exact (Chg.refl no w).alloc _
  rw [hw1]
  obtain ⟨g, hg⟩ : ∃ g, w.heap.size = g := ⟨_, rfl⟩
  rw [hg] at hb ⊢
  have HB : Hid (∀ W, Chg no w1 W → W.heap[g]? = some (cfgOI h z b r rd wt s p q t (.slice a len c))) := fun W k => k.heap hb id
  clear hw1 hg hb
  refine (first_any V _).mono ?_
  rintro e w2 ⟨rfl, k2⟩
  have K2 : Hid (Chg no w1 w2) := k2
  obtain ⟨c0, c1, c2, c3, c4, c5, c6, c7, c8, c9, c10⟩ := cfgI_cells (HB.out w2 k2)
  have HF2 := HF.out w2 (K1.out.then k2)
  clear k2 HF
  go_wp2_with fail
  refine HF2.mono ?_
  rintro e w3 ⟨B, rfl, k3, hB⟩
  have K3 : Hid (Chg no w1 w3) := K2.out.then k3
  clear HF2 k3 hB c0 c1 c2 c3 c4 c5 c6 c7 c8 c9 c10 K2
  cases B
  · go_wp2_with fail
    refine (first_any V _).mono ?_
    rintro e w4 ⟨rfl, k4⟩
    go_wp2
    go_ret
    exact ⟨rfl, ((K1.out.then K3.out).then k4).below⟩
  obtain ⟨c0, c1, c2, c3, c4, c5, c6, c7, c8, c9, c10⟩ := cfgI_cells (HB.out w3 K3.out)
  have HP3 := HP.out w3 (K1.out.then K3.out)
  go_wp2_with fail
  refine HP3.mono ?_
  rintro e w4 ⟨rfl, k4⟩
  have K4 : Hid (Chg no w1 w4) := K3.out.then k4
  clear HP3 k4 c0 c1 c2 c3 c4 c5 c6 c7 c8 c9 c10 K3
  go_wp2_with fail
  refine (first_any V _).mono ?_
  rintro e w5 ⟨rfl, k5⟩
  go_wp2
  go_ret
  exact ⟨rfl, ((K1.out.then K4.out).then k5).below⟩

set_option maxRecDepth 100000 in
set_option maxHeartbeats 32000000 in
theorem all (V : Ways) (w : World) (K : Cf) (hK : okC K) (a : Option Addr) (len c : Nat) (A : Nat → Option Addr) (C : Nat → Nat) (Z : Nat → List Int) (R : Rws w a len A C Z) (hlen : len ≤ maxLen) (hM : mayP (intC K) len Z) (i : Int) :
    Calls Try.prog 4 #[cfgV K (.slice a len c), .int .i64 i] w fun e w' => e = .returned (.bool true) ∧ Below w.heap.size w w' := by
  have HF : Hid (∀ W, Chg no w W → Calls Try.prog 8 #[cfgV K (.slice a len c)] W (FewRes len Z W)) := fun W k => few_any W (intC K) a len c A C Z hlen (Rws.chg R k)
  have HO : Hid (∀ W, Chg no w W → Calls Try.prog 9 #[cfgV K (.slice a len c)] W fun e w' => ∃ a' n' c', e = .returned (.tuple #[layV K (.slice a' n' c'), .int .i64 0]) ∧ Chg no W w') := fun W k => by
    have := V.of1 W (intC K) a len c A C Z (Rws.chg R k) hlen hM
    rw [natC_intC] at this
    exact this
  have HP : Hid (∀ W, Chg no w W → Calls Try.prog 10 #[cfgV K (.slice a len c)] W fun e w' => e = .returned (.bool true) ∧ Chg no W w') := fun W k => V.may W (intC K) a len c A C Z (Rws.chg R k) hlen true (by simp [hM])
  have HFi : Hid (∀ W, Calls Try.prog 7 #[] W fun e w' => e = .returned (.bool true) ∧ Chg no W w') := fun W => first_any V W
  have HP40 : Hid (∀ W a' n' c', Calls Try.prog 40 #[layV K (.slice a' n' c')] W fun e w' => e = .returned (.int .i64 (st5 K : Int)) ∧ Chg no W w') := fun W a' n' c' => V.total W K hK a' n' c'
  have HP16 : Hid (∀ W a' n' c', Calls Try.prog 16 #[layV K (.slice a' n' c')] W fun e w' => e = .returned (.int .i64 ((slotsN K : Nat) : Int)) ∧ Chg no W w') := fun W a' n' c' => V.slots W K hK a' n' c'
  have hp8 := hK.p
  have HC0 : Hid (∀ W a' n' c', Calls Try.prog 30 #[layV K (.slice a' n' c'), .int .i64 0] W fun e w' => e = .returned (areaV (((st1 K : Nat) : Int), ((cClog K : Nat) : Int))) ∧ Chg no W w') := fun W a' n' c' => by
    have := V.clog W K hK a' n' c' 0 (by omega)
    rw [clog0_val] at this
    exact this
  have HC1 : Hid (∀ W a' n' c', Calls Try.prog 30 #[layV K (.slice a' n' c'), .int .i64 1] W fun e w' => e = .returned (areaV (((st1 K + cClog K : Nat) : Int), ((cClog K : Nat) : Int))) ∧ Chg no W w') := fun W a' n' c' => by
    have := V.clog W K hK a' n' c' 1 (by omega)
    rw [clog1_val] at this
    exact this
  have HF0 : Hid (∀ W a' n' c', Calls Try.prog 34 #[layV K (.slice a' n' c'), .int .i64 0] W fun e w' => e = .returned (areaV (((st3 K : Nat) : Int), ((cFull K : Nat) : Int))) ∧ Chg no W w') := fun W a' n' c' => by
    have := V.full W K hK a' n' c' 0 (by omega)
    rw [full0_val] at this
    exact this
  have HFp : Hid (∀ W a' n' c', Calls Try.prog 34 #[layV K (.slice a' n' c'), .int .i64 (K.p : Int)] W fun e w' => e = .returned (areaV (((st3 K + cFull K : Nat) : Int), ((cFull K : Nat) : Int))) ∧ Chg no W w') := fun W a' n' c' => by
    have := V.full W K hK a' n' c' (K.p : Int) (by omega)
    rw [fullp_val hK] at this
    exact this
  have HLg : Hid (∀ u : Nat, u < slotsN K → ∀ W a' n' c', Calls Try.prog 28 #[layV K (.slice a' n' c'), .int .i64 (u : Int)] W fun e w' => e = .returned (areaV (((2 + u * cLog K : Nat) : Int), (cLog K : Int))) ∧ Chg no W w') := fun u hu W a' n' c' => by
    have hs := (slots_le hK).2.1
    have := V.log W K hK a' n' c' (u : Int) (by omega)
    rw [log_val u hu] at this
    exact this
  have HDe : Hid (∀ u : Nat, 1 ≤ u → u < 2 * K.p → u ≠ K.p → ∀ W a' n' c', Calls Try.prog 32 #[layV K (.slice a' n' c'), .int .i64 (u : Int)] W fun e w' => e = .returned (areaV (((st2 K + dIx K.p u * cDelta K : Nat) : Int), (cDelta K : Int))) ∧ Chg no W w') := fun u h1 h2 h3 W a' n' c' => by
    have := V.delta W K hK a' n' c' (u : Int) (by omega)
    rw [delta_val hK u h1 h2 h3] at this
    exact this
  have HBu : Hid (∀ u v : Nat, u < bucketsN K → v ≤ 1 → ∀ W a' n' c', Calls Try.prog 38 #[layV K (.slice a' n' c'), .int .i64 (u : Int), .int .i64 (v : Int)] W fun e w' => e = .returned (.int .i64 ((st4 K + 2 * u + v : Nat) : Int)) ∧ Chg no W w') := fun u v hu hv W a' n' c' => by
    have := V.bucket W K hK a' n' c' (u : Int) (v : Int)
    rw [bucket_val u v hu hv] at this
    exact this
  obtain ⟨ck, HCh, HAp, HCb⟩ := checks V K hK
  obtain ⟨cg, HCg, HCq⟩ := clogs V K hK
  obtain ⟨_, hS, hS2⟩ := slots_le hK
  obtain ⟨hb1, hb2⟩ := buckets_le hK
  obtain ⟨f1, f2, f3, f4⟩ := small hK
  have t1 : st1 K = 2 + slotsN K * cLog K := rfl
  have t2 : st2 K = st1 K + 2 * cClog K := rfl
  have t3 : st3 K = st2 K + 2 * (K.p - 1) * cDelta K := rfl
  have t4 : st4 K = st3 K + 2 * cFull K := rfl
  have t5 : st5 K = st4 K + 2 * bucketsN K := rfl
  have st := st_le hK
  have hbk : 2 ^ (K.h + 1) - 1 = bucketsN K := rfl
  have HK : Hid (okC K) := hK
  obtain ⟨S, hSS⟩ : ∃ x, slotsN K = x := ⟨_, rfl⟩
  obtain ⟨L, hLL⟩ : ∃ x, cLog K = x := ⟨_, rfl⟩
  obtain ⟨M, hMM⟩ : ∃ x, cClog K = x := ⟨_, rfl⟩
  obtain ⟨Fu, hFF⟩ : ∃ x, cFull K = x := ⟨_, rfl⟩
  obtain ⟨D, hDD⟩ : ∃ x, cDelta K = x := ⟨_, rfl⟩
  obtain ⟨B, hBB⟩ : ∃ x, bucketsN K = x := ⟨_, rfl⟩
  obtain ⟨s1, hs1⟩ : ∃ x, st1 K = x := ⟨_, rfl⟩
  obtain ⟨s2, hs2⟩ : ∃ x, st2 K = x := ⟨_, rfl⟩
  obtain ⟨s3, hs3⟩ : ∃ x, st3 K = x := ⟨_, rfl⟩
  obtain ⟨s4, hs4⟩ : ∃ x, st4 K = x := ⟨_, rfl⟩
  obtain ⟨s5, hs5⟩ : ∃ x, st5 K = x := ⟨_, rfl⟩
  simp only [hSS, hLL, hMM, hFF, hDD, hBB, hs1, hs2, hs3, hs4, hs5] at HP40 HP16 HC0 HC1 HF0 HFp HLg HDe HBu hS hS2 hb1 hb2 f1 f2 f3 f4 t1 t2 t3 t4 t5 st hbk
  replace t1 : s1 = 2 + S := by rw [t1, f1, Nat.mul_one]
  have hmake := fun w => run_make_row' (P := Try.prog) 45 4 (.bool false) 1 Try.underlying45 info4 rfl .i64 .i64 s5 (by omega) (by omega) w
  have z5 : (s5 : Int) ≤ 1548 := by omega
  have z3 : ¬ (s5 : Int) < 3 := by omega
  have z6 : ¬ (65536 : Int) < s5 := by omega
  have HN : Hid (s1 = 2 + S ∧ s2 = s1 + 2 * M ∧ s3 = s2 + 2 * (K.p - 1) * D ∧ s4 = s3 + 2 * Fu ∧ s5 = s4 + 2 * B ∧ s5 ≤ 1548 ∧ 1 ≤ M ∧ 1 ≤ Fu ∧ 1 ≤ D ∧ 1 ≤ B ∧ L = 1) := ⟨t1, t2, t3, t4, t5, by omega, f2.1, f4.1, f3.1, hb1, f1⟩
  have HBK : Hid (wrap64 (2 * 2 ^ K.h) = (B : Int) + 1 ∧ B ≤ 127) := ⟨shl_h hbk hb2, hb2⟩
  have hh6 := hK.h
  obtain ⟨h, z, b, r, rd, wr, s, p, q, t⟩ := K
  try simp only at *
  clear hK R hlen hM hSS hMM hFF hDD hBB hs1 hs2 hs3 hs4 hs5 t1 t2 t3 t4 t5 st hbk hLL f1 f2 f3 f4 hb1
  go_enter Try.func4, Try.ntmps4
  go_wp2_with fail
  obtain ⟨w1, hw1⟩ : ∃ w1, w.alloc (cfgO h z b r rd wr s p q t (.slice a len c)) = w1 := ⟨_, rfl⟩
  have hb : w1.heap[w.heap.size]? = some (cfgO h z b r rd wr s p q t (.slice a len c)) := by rw [← hw1]; exact heap_alloc_new w _
  have K1 : Hid (Chg no w w1) := by rw [← hw1]; exact (Chg.refl no w).alloc _
  rw [hw1]
  obtain ⟨gc, hg⟩ : ∃ g, w.heap.size = g := ⟨_, rfl⟩
  rw [hg] at hb ⊢
  have HB : Hid (∀ W, Chg no w1 W → W.heap[gc]? = some (cfgO h z b r rd wr s p q t (.slice a len c))) := fun W k => k.heap hb id
  clear hw1 hg hb
  refine (HFi.out _).mono ?_
  rintro e w2 ⟨rfl, k2⟩
  have K2 : Hid (Chg no w1 w2) := k2
  obtain ⟨c0, c1, c2, c3, c4, c5, c6, c7, c8, c9, c10⟩ := cfg_cells (HB.out w2 k2)
  have HF2 := HF.out w2 (K1.out.then k2)
  clear k2 HF
  go_wp2_with fail
  refine HF2.mono ?_
  rintro e w3 ⟨B, rfl, k3, hB⟩
  have K3 : Hid (Chg no w1 w3) := K2.out.then k3
  clear HF2 k3 hB c0 c1 c2 c3 c4 c5 c6 c7 c8 c9 c10 K2
  cases B
  · go_wp2_with fail
    refine (HFi.out _).mono ?_
    rintro e w4 ⟨rfl, k4⟩
    go_wp2
    go_ret
    exact ⟨rfl, ((K1.out.then K3.out).then k4).below⟩
  obtain ⟨c0, c1, c2, c3, c4, c5, c6, c7, c8, c9, c10⟩ := cfg_cells (HB.out w3 K3.out)
  have HP3 := HP.out w3 (K1.out.then K3.out)
  go_wp2_with fail
  refine HP3.mono ?_
  rintro e wp ⟨rfl, kp⟩
  have Kp : Hid (Chg no w1 wp) := K3.out.then kp
  clear HP3 kp c0 c1 c2 c3 c4 c5 c6 c7 c8 c9 c10 K3 HP
  obtain ⟨c0, c1, c2, c3, c4, c5, c6, c7, c8, c9, c10⟩ := cfg_cells (HB.out wp Kp.out)
  have HO3 := HO.out wp (K1.out.then Kp.out)
  go_wp2_with fail
  refine HO3.mono ?_
  rintro e w4 ⟨a', n', c', rfl, k4⟩
  have K4 : Hid (Chg no w1 w4) := Kp.out.then k4
  clear HO3 k4 c0 c1 c2 c3 c4 c5 c6 c7 c8 c9 c10 Kp HO
  go_wp2_with fail
  obtain ⟨w5, hw5⟩ : ∃ w5, w4.alloc (layO h z b r rd wr s p q t (.slice a' n' c')) = w5 := ⟨_, rfl⟩
  have K5 : Hid (Chg no w1 w5) := by rw [← hw5]; exact K4.out.alloc _
  have hl : w5.heap[w4.heap.size]? = some (layO h z b r rd wr s p q t (.slice a' n' c')) := by rw [← hw5]; exact heap_alloc_new w4 _
  rw [hw5]
  obtain ⟨gl, hgl⟩ : ∃ g, w4.heap.size = g := ⟨_, rfl⟩
  rw [hgl] at hl ⊢
  have HT : Hid (Tb gc gl h z b r rd wr s p q t (.slice a len c) (.slice a' n' c') w5) := ⟨HB.out w5 K5.out, hl⟩
  have KW : Hid (Chg no w w5) := K1.out.then K5.out
  clear hw5 K4 hl hgl HB K5 K1
  obtain ⟨c0, c1, c2, c3, c4, c5, c6, c7, c8, c9, c10⟩ := cfg_cells HT.out.box
  obtain ⟨d0, d1, d2, d3, d4, d5, d6, d7, d8, d9, d10⟩ := lay_cells HT.out.lay
  refine (HP40.out _ a' n' c').mono ?_
  rintro e w6 ⟨rfl, k6⟩
  have K6 : Hid (Chg no w5 w6) := k6
  clear k6 c0 c1 c2 c3 c4 c5 c6 c7 c8 c9 c10 d0 d1 d2 d3 d4 d5 d6 d7 d8 d9 d10
  obtain ⟨d0, d1, d2, d3, d4, d5, d6, d7, d8, d9, d10⟩ := lay_cells (HT.out.later K6.out).lay
  go_wp2_with fail
  refine (HP40.out _ a' n' c').mono ?_
  rintro e w7 ⟨rfl, k7⟩
  have K7 : Hid (Chg no w5 w7) := K6.out.then k7
  clear k7 K6 d0 d1 d2 d3 d4 d5 d6 d7 d8 d9 d10
  obtain ⟨d0, d1, d2, d3, d4, d5, d6, d7, d8, d9, d10⟩ := lay_cells (HT.out.later K7.out).lay
  go_wp2_with fail
  refine (HP40.out _ a' n' c').mono ?_
  rintro e w8 ⟨rfl, k8⟩
  have K8 : Hid (Chg no w5 w8) := K7.out.then k8
  clear k8 K7 d0 d1 d2 d3 d4 d5 d6 d7 d8 d9 d10
  go_wp2_with fail
  obtain ⟨w9, hw9⟩ : ∃ x, w8.alloc (.cells (madeCells #[.bool false] s5) 4) = x := ⟨_, rfl⟩
  have HA0 : Hid (Apt w gc gl w8.heap.size h z b r rd wr s p q t (.slice a len c) (.slice a' n' c') s5 (cov2 2 2 s3 s3) w9) := by
    have T8 := HT.out.later K8.out
    have l1 := lt_of_block T8.box
    have l2 := lt_of_block T8.lay
    rw [← hw9]
    have kk : Chg no w8 (w8.alloc (.cells (madeCells #[.bool false] s5) 4)) := (Chg.refl no w8).alloc _
    have kw := KW.out.then K8.out
    exact ⟨kk.heap T8.box id, kk.heap T8.lay id, made_row w8 s5 (by have := HN.out; omega) _ (fun k => cov_none s3 k), kw.then kk, by omega, by omega, kw.size⟩
  rw [hw9]
  obtain ⟨g, hg⟩ : ∃ x, w8.heap.size = x := ⟨_, rfl⟩
  rw [hg] at HA0 ⊢
  clear hw9 hg K8 KW HT hmake
  go_loopw [8] (fun iv wq => ∃ u : Nat, u ≤ S ∧ iv = .int .i64 (u : Int) ∧ Apt w gc gl g h z b r rd wr s p q t (.slice a len c) (.slice a' n' c') s5 (cov2 2 (2 + u) s3 s3) wq) (fun iv _ => S - (intOf iv).toNat)
  case atStart => exact ⟨0, by omega, rfl, HA0.out⟩
  case round =>
    rename World => wl
    obtain ⟨u, hu, rfl, hA⟩ := hrel
    have HA : Hid (Apt w gc gl g h z b r rd wr s p q t (.slice a len c) (.slice a' n' c') s5 (cov2 2 (2 + u) s3 s3) wl) := hA
    clear hA HA0
    obtain ⟨d0, d1, d2, d3, d4, d5, d6, d7, d8, d9, d10⟩ := lay_cells HA.out.lay
    have HSl := HP16.out wl a' n' c'
    go_wp2_with fail
    refine HSl.mono ?_
    rintro e w6 ⟨rfl, k6⟩
    clear HSl d0 d1 d2 d3 d4 d5 d6 d7 d8 d9 d10
    have HA2 : Hid (Apt w gc gl g h z b r rd wr s p q t (.slice a len c) (.slice a' n' c') s5 (cov2 2 (2 + u) s3 s3) w6) := HA.out.later k6
    clear HA
    have HA : Hid (Apt w gc gl g h z b r rd wr s p q t (.slice a len c) (.slice a' n' c') s5 (cov2 2 (2 + u) s3 s3) w6) := HA2.out
    clear HA2
    clear k6
    by_cases hlt : u < S
    · have hlti : (u : Int) < S := by omega
      obtain ⟨d0, d1, d2, d3, d4, d5, d6, d7, d8, d9, d10⟩ := lay_cells HA.out.lay
      have HLu := HLg.out u hlt w6 a' n' c'
      obtain ⟨Fq, hFq⟩ : ∃ x, 2 + u * L = x := ⟨_, rfl⟩
      have hFq2 : 2 + u = Fq := by rw [← hFq, HN.out.2.2.2.2.2.2.2.2.2.2, Nat.mul_one]
      rw [hFq] at HLu
      have HQ : Hid (2 + u = Fq) := hFq2
      rw [hFq2] at HA
      clear hFq hFq2
      go_wp2_with fail
      refine HLu.mono ?_
      rintro e w7 ⟨rfl, k7⟩
      clear HLu d0 d1 d2 d3 d4 d5 d6 d7 d8 d9 d10
      have HA2 : Hid (Apt w gc gl g h z b r rd wr s p q t (.slice a len c) (.slice a' n' c') s5 (cov2 2 Fq s3 s3) w7) := HA.out.later k7
      clear HA
      have HA : Hid (Apt w gc gl g h z b r rd wr s p q t (.slice a len c) (.slice a' n' c') s5 (cov2 2 Fq s3 s3) w7) := HA2.out
      clear HA2
      clear k7
      have HMk : Calls Try.prog 48 #[.slice (some ⟨g, 0, none⟩) s5 s5, .agg #[.int .i64 (Fq : Int), .int .i64 (L : Int)]] w7 fun e w' => e = .returned (.bool true) ∧ Mks 0 g s5 (add (cov2 2 Fq s3 s3) Fq L) w' ∧ Chg (fun k => k = g) w7 w' := by
        obtain ⟨n1, n2, n3, n4, n5, n6, n7, n8, n9, n10, n11⟩ := HN.out
        have q1 := HQ.out
        exact marks_any w7 0 g s5 (cov2 2 Fq s3 s3) Fq L (by omega) (by omega) (by omega) (by omega) (free1 (by have := HQ.out; omega)) HA.out.mks
      go_wp2_with fail
      refine HMk.mono ?_
      rintro e w8 ⟨rfl, MM, kk⟩
      have HA2 : Hid (Apt w gc gl g h z b r rd wr s p q t (.slice a len c) (.slice a' n' c') s5 (cov2 2 (Fq + L) s3 s3) w8) := (HA.out.mark MM kk).as (grow1 (by have := HQ.out; omega))
      clear HA MM kk
      have HA : Hid (Apt w gc gl g h z b r rd wr s p q t (.slice a len c) (.slice a' n' c') s5 (cov2 2 (Fq + L) s3 s3) w8) := HA2.out
      clear HA2
      clear HMk
      go_wp2
      go_roundw
      case rel => exact ⟨u + 1, by omega, by go_num, HA.out.as (by have e := HN.out.2.2.2.2.2.2.2.2.2.2; have e2 := HQ.out; rw [show Fq + L = 2 + (u + 1) by omega])⟩
      case measure => simp [intOf]; omega
    · obtain rfl : u = S := by omega
      have hlti : ¬ (u : Int) < u := by omega
      have HA2 : Hid (Apt w gc gl g h z b r rd wr s p q t (.slice a len c) (.slice a' n' c') s5 (cov2 2 s1 s3 s3) w6) := HA.out.as (by rw [HN.out.1])
      clear HA hu hlt
      have HA : Hid (Apt w gc gl g h z b r rd wr s p q t (.slice a len c) (.slice a' n' c') s5 (cov2 2 s1 s3 s3) w6) := HA2.out
      clear HA2
      obtain ⟨FX, hFX⟩ : ∃ x, s1 + M = x := ⟨_, rfl⟩
      obtain ⟨FY, hFY⟩ : ∃ x, s3 + Fu = x := ⟨_, rfl⟩
      have HQ : Hid (s1 + M = FX ∧ s3 + Fu = FY) := ⟨hFX, hFY⟩
      rw [hFX] at HC1
      rw [hFY] at HFp
      clear hFX hFY
      obtain ⟨d0, d1, d2, d3, d4, d5, d6, d7, d8, d9, d10⟩ := lay_cells HA.out.lay
      go_wp2_with fail
      refine (HC0.out _ a' n' c').mono ?_
      rintro e v1 ⟨rfl, kv⟩
      clear d0 d1 d2 d3 d4 d5 d6 d7 d8 d9 d10
      have HA2 : Hid (Apt w gc gl g h z b r rd wr s p q t (.slice a len c) (.slice a' n' c') s5 (cov2 2 s1 s3 s3) v1) := HA.out.later kv
      clear HA
      have HA : Hid (Apt w gc gl g h z b r rd wr s p q t (.slice a len c) (.slice a' n' c') s5 (cov2 2 s1 s3 s3) v1) := HA2.out
      clear HA2
      clear kv
      have HMk : Calls Try.prog 48 #[.slice (some ⟨g, 0, none⟩) s5 s5, .agg #[.int .i64 (s1 : Int), .int .i64 (M : Int)]] v1 fun e w' => e = .returned (.bool true) ∧ Mks 0 g s5 (add (cov2 2 s1 s3 s3) s1 M) w' ∧ Chg (fun k => k = g) v1 w' := by
        obtain ⟨n1, n2, n3, n4, n5, n6, n7, n8, n9, n10, n11⟩ := HN.out
        have q1 := HQ.out
        exact marks_any v1 0 g s5 (cov2 2 s1 s3 s3) s1 M (by omega) (by omega) (by omega) (by omega) (free1 (by omega)) HA.out.mks
      go_wp2_with fail
      refine HMk.mono ?_
      rintro e v2 ⟨rfl, MM, kk⟩
      have HA2 : Hid (Apt w gc gl g h z b r rd wr s p q t (.slice a len c) (.slice a' n' c') s5 (cov2 2 FX s3 s3) v2) := (HA.out.mark MM kk).as (by obtain ⟨n1, n2, n3, n4, n5, n6, n7, n8, n9, n10, n11⟩ := HN.out; rw [grow1 (by omega), HQ.out.1])
      clear HA MM kk
      have HA : Hid (Apt w gc gl g h z b r rd wr s p q t (.slice a len c) (.slice a' n' c') s5 (cov2 2 FX s3 s3) v2) := HA2.out
      clear HA2
      clear HMk
      obtain ⟨d0, d1, d2, d3, d4, d5, d6, d7, d8, d9, d10⟩ := lay_cells HA.out.lay
      go_wp2_with fail
      refine (HC1.out _ a' n' c').mono ?_
      rintro e v3 ⟨rfl, kv⟩
      clear d0 d1 d2 d3 d4 d5 d6 d7 d8 d9 d10
      have HA2 : Hid (Apt w gc gl g h z b r rd wr s p q t (.slice a len c) (.slice a' n' c') s5 (cov2 2 FX s3 s3) v3) := HA.out.later kv
      clear HA
      have HA : Hid (Apt w gc gl g h z b r rd wr s p q t (.slice a len c) (.slice a' n' c') s5 (cov2 2 FX s3 s3) v3) := HA2.out
      clear HA2
      clear kv
      have HMk : Calls Try.prog 48 #[.slice (some ⟨g, 0, none⟩) s5 s5, .agg #[.int .i64 (FX : Int), .int .i64 (M : Int)]] v3 fun e w' => e = .returned (.bool true) ∧ Mks 0 g s5 (add (cov2 2 FX s3 s3) FX M) w' ∧ Chg (fun k => k = g) v3 w' := by
        obtain ⟨n1, n2, n3, n4, n5, n6, n7, n8, n9, n10, n11⟩ := HN.out
        have q1 := HQ.out
        exact marks_any v3 0 g s5 (cov2 2 FX s3 s3) FX M (by omega) (by omega) (by omega) (by omega) (free1 (by omega)) HA.out.mks
      go_wp2_with fail
      refine HMk.mono ?_
      rintro e v4 ⟨rfl, MM, kk⟩
      have HA2 : Hid (Apt w gc gl g h z b r rd wr s p q t (.slice a len c) (.slice a' n' c') s5 (cov2 2 s2 s3 s3) v4) := (HA.out.mark MM kk).as (by obtain ⟨n1, n2, n3, n4, n5, n6, n7, n8, n9, n10, n11⟩ := HN.out; have q := HQ.out; rw [grow1 (by omega), show FX + M = s2 by omega])
      clear HA MM kk
      have HA : Hid (Apt w gc gl g h z b r rd wr s p q t (.slice a len c) (.slice a' n' c') s5 (cov2 2 s2 s3 s3) v4) := HA2.out
      clear HA2
      clear HMk
      obtain ⟨d0, d1, d2, d3, d4, d5, d6, d7, d8, d9, d10⟩ := lay_cells HA.out.lay
      go_wp2_with fail
      refine (HF0.out _ a' n' c').mono ?_
      rintro e v5 ⟨rfl, kv⟩
      clear d0 d1 d2 d3 d4 d5 d6 d7 d8 d9 d10
      have HA2 : Hid (Apt w gc gl g h z b r rd wr s p q t (.slice a len c) (.slice a' n' c') s5 (cov2 2 s2 s3 s3) v5) := HA.out.later kv
      clear HA
      have HA : Hid (Apt w gc gl g h z b r rd wr s p q t (.slice a len c) (.slice a' n' c') s5 (cov2 2 s2 s3 s3) v5) := HA2.out
      clear HA2
      clear kv
      have HMk : Calls Try.prog 48 #[.slice (some ⟨g, 0, none⟩) s5 s5, .agg #[.int .i64 (s3 : Int), .int .i64 (Fu : Int)]] v5 fun e w' => e = .returned (.bool true) ∧ Mks 0 g s5 (add (cov2 2 s2 s3 s3) s3 Fu) w' ∧ Chg (fun k => k = g) v5 w' := by
        obtain ⟨n1, n2, n3, n4, n5, n6, n7, n8, n9, n10, n11⟩ := HN.out
        have q1 := HQ.out
        exact marks_any v5 0 g s5 (cov2 2 s2 s3 s3) s3 Fu (by omega) (by omega) (by omega) (by omega) (free2 (by omega) (by omega)) HA.out.mks
      go_wp2_with fail
      refine HMk.mono ?_
      rintro e v6 ⟨rfl, MM, kk⟩
      have HA2 : Hid (Apt w gc gl g h z b r rd wr s p q t (.slice a len c) (.slice a' n' c') s5 (cov2 2 s2 s3 FY) v6) := (HA.out.mark MM kk).as (by rw [grow2 (by omega), HQ.out.2])
      clear HA MM kk
      have HA : Hid (Apt w gc gl g h z b r rd wr s p q t (.slice a len c) (.slice a' n' c') s5 (cov2 2 s2 s3 FY) v6) := HA2.out
      clear HA2
      clear HMk
      obtain ⟨d0, d1, d2, d3, d4, d5, d6, d7, d8, d9, d10⟩ := lay_cells HA.out.lay
      obtain ⟨c0, c1, c2, c3, c4, c5, c6, c7, c8, c9, c10⟩ := cfg_cells HA.out.box
      go_wp2_with fail
      refine (HFp.out _ a' n' c').mono ?_
      rintro e v7 ⟨rfl, kv⟩
      clear d0 d1 d2 d3 d4 d5 d6 d7 d8 d9 d10 c0 c1 c2 c3 c4 c5 c6 c7 c8 c9 c10
      have HA2 : Hid (Apt w gc gl g h z b r rd wr s p q t (.slice a len c) (.slice a' n' c') s5 (cov2 2 s2 s3 FY) v7) := HA.out.later kv
      clear HA
      have HA : Hid (Apt w gc gl g h z b r rd wr s p q t (.slice a len c) (.slice a' n' c') s5 (cov2 2 s2 s3 FY) v7) := HA2.out
      clear HA2
      clear kv
      have HMk : Calls Try.prog 48 #[.slice (some ⟨g, 0, none⟩) s5 s5, .agg #[.int .i64 (FY : Int), .int .i64 (Fu : Int)]] v7 fun e w' => e = .returned (.bool true) ∧ Mks 0 g s5 (add (cov2 2 s2 s3 FY) FY Fu) w' ∧ Chg (fun k => k = g) v7 w' := by
        obtain ⟨n1, n2, n3, n4, n5, n6, n7, n8, n9, n10, n11⟩ := HN.out
        have q1 := HQ.out
        exact marks_any v7 0 g s5 (cov2 2 s2 s3 FY) FY Fu (by omega) (by omega) (by omega) (by omega) (free2 (by omega) (by omega)) HA.out.mks
      go_wp2_with fail
      refine HMk.mono ?_
      rintro e v8 ⟨rfl, MM, kk⟩
      have HA2 : Hid (Apt w gc gl g h z b r rd wr s p q t (.slice a len c) (.slice a' n' c') s5 (cov2 2 s2 s3 s4) v8) := (HA.out.mark MM kk).as (by obtain ⟨n1, n2, n3, n4, n5, n6, n7, n8, n9, n10, n11⟩ := HN.out; have q := HQ.out; rw [grow2 (by omega), show FY + Fu = s4 by omega])
      clear HA MM kk
      have HA : Hid (Apt w gc gl g h z b r rd wr s p q t (.slice a len c) (.slice a' n' c') s5 (cov2 2 s2 s3 s4) v8) := HA2.out
      clear HA2
      clear HMk
      go_wp2_with fail
      have hd1 : dIx p 1 = 0 := by
        unfold dIx
        split <;> omega
      have HD0 : Hid (Apt w gc gl g h z b r rd wr s p q t (.slice a len c) (.slice a' n' c') s5 (cov2 2 (s2 + dIx p 1 * D) s3 s4) v8) := HA.out.as (by rw [hd1, Nat.zero_mul, Nat.add_zero])
      clear HA HC0 HC1 HF0 HFp HLg HP16 hd1
      go_loopw [9] (fun iv wq => ∃ x : Nat, 1 ≤ x ∧ x ≤ 2 * p ∧ iv = .int .i64 (x : Int) ∧ Apt w gc gl g h z b r rd wr s p q t (.slice a len c) (.slice a' n' c') s5 (cov2 2 (s2 + dIx p x * D) s3 s4) wq) (fun iv _ => 2 * p - (intOf iv).toNat)
      case atStart => exact ⟨1, by omega, by omega, rfl, HD0.out⟩
      case round =>
        rename World => wm
        obtain ⟨x, hx1, hx2, rfl, hA⟩ := hrel
        have HA : Hid (Apt w gc gl g h z b r rd wr s p q t (.slice a len c) (.slice a' n' c') s5 (cov2 2 (s2 + dIx p x * D) s3 s4) wm) := hA
        clear hA HD0
        obtain ⟨c0, c1, c2, c3, c4, c5, c6, c7, c8, c9, c10⟩ := cfg_cells HA.out.box
        obtain ⟨d0, d1, d2, d3, d4, d5, d6, d7, d8, d9, d10⟩ := lay_cells HA.out.lay
        have hp1 : 1 ≤ (p : Int) := by omega
        have hp88 : (p : Int) ≤ 8 := by omega
        have hx16 : (x : Int) ≤ 16 := by omega
        by_cases hlt : x < 2 * p
        · have hlti : (x : Int) < 2 * (p : Int) := by omega
          by_cases hxp : x = p
          · have HN2 : Hid (Apt w gc gl g h z b r rd wr s p q t (.slice a len c) (.slice a' n' c') s5 (cov2 2 (s2 + dIx p (x + 1) * D) s3 s4) wm) := HA.out.as (by rw [hxp, dIx_mid])
            have hxpi : (x : Int) = (p : Int) := by omega
            have hxp2 : (x == p) = true := by simpa using hxp
            rw [hxp] at HN2 ⊢
            clear hxp HA
            go_wp2
            go_roundw
            case rel => exact ⟨p + 1, by omega, by omega, by go_num, HN2.out⟩
            case measure => simp [intOf]; omega
          · have hxpi : ¬ (x : Int) = (p : Int) := by omega
            have hDx := HDe.out x hx1 hlt hxp wm a' n' c'
            have hix := (dAt_ix HK.out x hx1 hlt hxp).2.2
            have hle := dIx_le p (x + 1) (by omega)
            obtain ⟨Fq, hFq⟩ : ∃ y, s2 + dIx p x * D = y := ⟨_, rfl⟩
            have hnx : s2 + dIx p (x + 1) * D = Fq + D := by
              have h2 : dIx p (x + 1) = dIx p x + 1 := hix
              rw [h2, Nat.add_mul, Nat.one_mul, ← hFq]
              omega
            have hbd : Fq + D ≤ s3 := by
              rw [← hnx, HN.out.2.2.1]
              have := Nat.mul_le_mul_right D (show dIx p (x + 1) ≤ 2 * (p - 1) by omega)
              omega
            rw [hFq] at hDx HA
            have HQ2 : Hid (Fq + D ≤ s3 ∧ s2 ≤ Fq) := ⟨hbd, by rw [← hFq]; exact Nat.le_add_right _ _⟩
            have HNX : Hid (s2 + dIx p (x + 1) * D = Fq + D) := hnx
            clear hFq hnx hbd hix hle HDe
            go_wp2_with fail
            refine hDx.mono ?_
            rintro e y1 ⟨rfl, kv⟩
            clear hDx c0 c1 c2 c3 c4 c5 c6 c7 c8 c9 c10 d0 d1 d2 d3 d4 d5 d6 d7 d8 d9 d10
            have HA2 : Hid (Apt w gc gl g h z b r rd wr s p q t (.slice a len c) (.slice a' n' c') s5 (cov2 2 Fq s3 s4) y1) := HA.out.later kv
            clear HA
            have HA : Hid (Apt w gc gl g h z b r rd wr s p q t (.slice a len c) (.slice a' n' c') s5 (cov2 2 Fq s3 s4) y1) := HA2.out
            clear HA2
            clear kv
            have HMk : Calls Try.prog 48 #[.slice (some ⟨g, 0, none⟩) s5 s5, .agg #[.int .i64 (Fq : Int), .int .i64 (D : Int)]] y1 fun e w' => e = .returned (.bool true) ∧ Mks 0 g s5 (add (cov2 2 Fq s3 s4) Fq D) w' ∧ Chg (fun k => k = g) y1 w' := by
              obtain ⟨n1, n2, n3, n4, n5, n6, n7, n8, n9, n10, n11⟩ := HN.out
              have q1 := HQ2.out
              exact marks_any y1 0 g s5 (cov2 2 Fq s3 s4) Fq D (by omega) (by omega) (by omega) (by omega) (free1 (by omega)) HA.out.mks
            go_wp2_with fail
            refine HMk.mono ?_
            rintro e y2 ⟨rfl, MM, kk⟩
            have HA2 : Hid (Apt w gc gl g h z b r rd wr s p q t (.slice a len c) (.slice a' n' c') s5 (cov2 2 (Fq + D) s3 s4) y2) := (HA.out.mark MM kk).as (grow1 (by have q1 := HQ2.out; have q2 := HN.out; omega))
            clear HA MM kk
            have HA : Hid (Apt w gc gl g h z b r rd wr s p q t (.slice a len c) (.slice a' n' c') s5 (cov2 2 (Fq + D) s3 s4) y2) := HA2.out
            clear HA2
            clear HMk
            go_wp2
            go_roundw
            case rel => exact ⟨x + 1, by omega, by omega, by go_num, HA.out.as (by rw [HNX.out])⟩
            case measure => simp [intOf]; omega
        · obtain rfl : x = 2 * p := by omega
          have HA2 : Hid (Apt w gc gl g h z b r rd wr s p q t (.slice a len c) (.slice a' n' c') s5 (cov2 2 s3 s3 s4) wm) := HA.out.as (by rw [dIx_end p (by omega), HN.out.2.2.1])
          have hlti : ¬ ((2 * p : Nat) : Int) < 2 * (p : Int) := by omega
          obtain ⟨y, hy⟩ : ∃ y, ((2 * p : Nat) : Int) = y := ⟨_, rfl⟩
          rw [hy] at hlti hx16 ⊢
          clear HA hx1 hx2 hlt hy
          go_wp2_with fail
          clear hlti hx16 HDe d0 d1 d2 d3 d4 d5 d6 d7 d8 d9 d10 c0 c1 c2 c3 c4 c5 c6 c7 c8 c9 c10
          have HA4 : Hid (Apt w gc gl g h z b r rd wr s p q t (.slice a len c) (.slice a' n' c') s5 (cov2 2 s3 s3 (s4 + 2 * 0)) wm) := HA2.out.as (by rw [Nat.mul_zero, Nat.add_zero])
          clear HA2
          go_loopw [10] (fun iv wq => ∃ u : Nat, u ≤ B ∧ iv = .int .i64 (u : Int) ∧ Apt w gc gl g h z b r rd wr s p q t (.slice a len c) (.slice a' n' c') s5 (cov2 2 s3 s3 (s4 + 2 * u)) wq) (fun iv _ => B - (intOf iv).toNat)
          case atStart => exact ⟨0, by omega, rfl, HA4.out⟩
          case round =>
            rename World => wn
            obtain ⟨u, hu, rfl, hA⟩ := hrel
            have HA : Hid (Apt w gc gl g h z b r rd wr s p q t (.slice a len c) (.slice a' n' c') s5 (cov2 2 s3 s3 (s4 + 2 * u)) wn) := hA
            clear hA HA4
            obtain ⟨hsh, hB127⟩ := HBK.out
            have hB127i : (B : Int) ≤ 127 := by omega
            have hh6i : (h : Int) ≤ 6 := by omega
            by_cases hlt : u < B
            · have hlti : (u : Int) < (B : Int) := by omega
              have HX0 := HBu.out u 0 hlt (by omega)
              have HX1 := HBu.out u 1 hlt (by omega)
              obtain ⟨Fq, hFq⟩ : ∃ y, s4 + 2 * u = y := ⟨_, rfl⟩
              obtain ⟨Fr, hFr⟩ : ∃ y, Fq + 1 = y := ⟨_, rfl⟩
              rw [hFq, Nat.add_zero] at HX0
              rw [hFq, hFr] at HX1
              rw [hFq] at HA
              have HQ4 : Hid (s4 + 2 * u = Fq ∧ Fq + 1 = Fr) := ⟨hFq, hFr⟩
              clear hFq hFr
              obtain ⟨c0, c1, c2, c3, c4, c5, c6, c7, c8, c9, c10⟩ := cfg_cells HA.out.box
              obtain ⟨d0, d1, d2, d3, d4, d5, d6, d7, d8, d9, d10⟩ := lay_cells HA.out.lay
              go_wp2_with fail
              refine (HX0 _ a' n' c').mono ?_
              rintro e y1 ⟨rfl, kv⟩
              clear HX0 c0 c1 c2 c3 c4 c5 c6 c7 c8 c9 c10 d0 d1 d2 d3 d4 d5 d6 d7 d8 d9 d10
              have HA2 : Hid (Apt w gc gl g h z b r rd wr s p q t (.slice a len c) (.slice a' n' c') s5 (cov2 2 s3 s3 Fq) y1) := HA.out.later kv
              clear HA
              have HA : Hid (Apt w gc gl g h z b r rd wr s p q t (.slice a len c) (.slice a' n' c') s5 (cov2 2 s3 s3 Fq) y1) := HA2.out
              clear HA2
              clear kv
              have HMk : Calls Try.prog 48 #[.slice (some ⟨g, 0, none⟩) s5 s5, .agg #[.int .i64 (Fq : Int), .int .i64 1]] y1 fun e w' => e = .returned (.bool true) ∧ Mks 0 g s5 (add (cov2 2 s3 s3 Fq) Fq 1) w' ∧ Chg (fun k => k = g) y1 w' := by
                obtain ⟨n1, n2, n3, n4, n5, n6, n7, n8, n9, n10, n11⟩ := HN.out
                have q1 := HQ4.out
                exact marks_any y1 0 g s5 (cov2 2 s3 s3 Fq) Fq 1 (by omega) (by omega) (by omega) (by omega) (free2 (by omega) (by have := HN.out; have := HQ4.out; omega)) HA.out.mks
              go_wp2_with fail
              refine HMk.mono ?_
              rintro e y2 ⟨rfl, MM, kk⟩
              have HA2 : Hid (Apt w gc gl g h z b r rd wr s p q t (.slice a len c) (.slice a' n' c') s5 (cov2 2 s3 s3 Fr) y2) := (HA.out.mark MM kk).as (by have := HN.out; have q := HQ4.out; rw [grow2 (by omega), q.2])
              clear HA MM kk
              have HA : Hid (Apt w gc gl g h z b r rd wr s p q t (.slice a len c) (.slice a' n' c') s5 (cov2 2 s3 s3 Fr) y2) := HA2.out
              clear HA2
              clear HMk
              obtain ⟨d0, d1, d2, d3, d4, d5, d6, d7, d8, d9, d10⟩ := lay_cells HA.out.lay
              go_wp2_with fail
              refine (HX1 _ a' n' c').mono ?_
              rintro e y3 ⟨rfl, kv⟩
              clear HX1 d0 d1 d2 d3 d4 d5 d6 d7 d8 d9 d10
              have HA2 : Hid (Apt w gc gl g h z b r rd wr s p q t (.slice a len c) (.slice a' n' c') s5 (cov2 2 s3 s3 Fr) y3) := HA.out.later kv
              clear HA
              have HA : Hid (Apt w gc gl g h z b r rd wr s p q t (.slice a len c) (.slice a' n' c') s5 (cov2 2 s3 s3 Fr) y3) := HA2.out
              clear HA2
              clear kv
              have HMk : Calls Try.prog 48 #[.slice (some ⟨g, 0, none⟩) s5 s5, .agg #[.int .i64 (Fr : Int), .int .i64 1]] y3 fun e w' => e = .returned (.bool true) ∧ Mks 0 g s5 (add (cov2 2 s3 s3 Fr) Fr 1) w' ∧ Chg (fun k => k = g) y3 w' := by
                obtain ⟨n1, n2, n3, n4, n5, n6, n7, n8, n9, n10, n11⟩ := HN.out
                have q1 := HQ4.out
                exact marks_any y3 0 g s5 (cov2 2 s3 s3 Fr) Fr 1 (by omega) (by omega) (by omega) (by omega) (free2 (by omega) (by have := HN.out; have := HQ4.out; omega)) HA.out.mks
              go_wp2_with fail
              refine HMk.mono ?_
              rintro e y4 ⟨rfl, MM, kk⟩
              have HA2 : Hid (Apt w gc gl g h z b r rd wr s p q t (.slice a len c) (.slice a' n' c') s5 (cov2 2 s3 s3 (s4 + 2 * (u + 1))) y4) := (HA.out.mark MM kk).as (by have := HN.out; have q := HQ4.out; rw [grow2 (by omega), show Fr + 1 = s4 + 2 * (u + 1) by omega])
              clear HA MM kk
              have HA : Hid (Apt w gc gl g h z b r rd wr s p q t (.slice a len c) (.slice a' n' c') s5 (cov2 2 s3 s3 (s4 + 2 * (u + 1))) y4) := HA2.out
              clear HA2
              clear HMk
              go_wp2
              go_roundw
              case rel => exact ⟨u + 1, by omega, by go_num, HA.out⟩
              case measure => simp [intOf]; omega
            · obtain rfl : u = B := by omega
              have HA2 : Hid (Apt w gc gl g h z b r rd wr s p q t (.slice a len c) (.slice a' n' c') s5 (cov2 2 s3 s3 s5) wn) := HA.out.as (by rw [HN.out.2.2.2.2.1])
              obtain ⟨c0, c1, c2, c3, c4, c5, c6, c7, c8, c9, c10⟩ := cfg_cells HA.out.box
              clear HA HBu
              go_wp2_with fail
              clear c0 c1 c2 c3 c4 c5 c6 c7 c8 c9 c10 hsh hB127 hB127i hh6i hu hlt HBK
              go_loopw [11] (fun iv wq => ∃ k : Nat, 2 ≤ k ∧ k ≤ s5 ∧ iv = .int .i64 (k : Int) ∧ Apt w gc gl g h z b r rd wr s p q t (.slice a len c) (.slice a' n' c') s5 (cov2 2 s3 s3 s5) wq) (fun iv _ => s5 - (intOf iv).toNat)
              case atStart => exact ⟨2, by omega, by have := HN.out; omega, rfl, HA2.out⟩
              case round =>
                rename World => wo
                obtain ⟨k, hk2, hk5, rfl, hA⟩ := hrel
                have HA : Hid (Apt w gc gl g h z b r rd wr s p q t (.slice a len c) (.slice a' n' c') s5 (cov2 2 s3 s3 s5) wo) := hA
                clear hA HA2
                by_cases hlt : k < s5
                · have hlti : (k : Int) < (s5 : Int) := by omega
                  obtain ⟨o1, o2⟩ := HA.out.mks.at k hlt
                  rw [cov_all ⟨hk2, hlt⟩ (by have := HN.out; omega)] at o1
                  go_wp2
                  go_roundw
                  case rel => exact ⟨k + 1, by omega, by omega, by go_num, HA.out⟩
                  case measure => simp [intOf]; omega
                · obtain rfl : k = s5 := by omega
                  have hlti : ¬ (k : Int) < (k : Int) := by omega
                  have KE : Hid (Chg no w wo) := HA.out.chg
                  have HT : Hid (Tb gc gl h z b r rd wr s p q t (.slice a len c) (.slice a' n' c') wo) := ⟨HA.out.box, HA.out.lay⟩
                  clear HA hk2 hk5
                  by_cases hi0 : i < 0
                  · go_wp2_with fail
                    refine (HFi.out _).mono ?_
                    rintro e y1 ⟨rfl, k1⟩
                    go_wp2
                    go_ret
                    exact ⟨rfl, (KE.out.then k1).below⟩
                  by_cases hi1 : 1099511627776 < i
                  · go_wp2_with fail
                    refine (HFi.out _).mono ?_
                    rintro e y1 ⟨rfl, k1⟩
                    go_wp2
                    go_ret
                    exact ⟨rfl, (KE.out.then k1).below⟩
                  obtain ⟨m, rfl⟩ : ∃ m : Nat, i = (m : Int) := ⟨i.toNat, by omega⟩
                  have hm40 : (m : Int) ≤ 1099511627776 := by omega
                  have HX := HCh.out (m + 1) (by omega) wo a' n' c'
                  rw [show ((m + 1 : Nat) : Int) = (m : Int) + 1 by omega] at HX
                  obtain ⟨⟨A1, A2⟩, hA12⟩ : ∃ x, ck (m + 1) = x := ⟨_, rfl⟩
                  have hcb := HCb.out (m + 1)
                  rw [hA12] at hcb HX
                  obtain ⟨a1, a2, a3, a4⟩ := hcb
                  simp only at a1 a2 a3 a4
                  have HA12 : Hid (ck (m + 1) = (A1, A2)) := hA12
                  clear hA12
                  obtain ⟨d0, d1, d2, d3, d4, d5, d6, d7, d8, d9, d10⟩ := lay_cells HT.out.lay
                  go_wp2_with fail
                  refine HX.mono ?_
                  rintro e v1 ⟨rfl, k1⟩
                  clear HX d0 d1 d2 d3 d4 d5 d6 d7 d8 d9 d10
                  have HT2 : Hid (Tb gc gl h z b r rd wr s p q t (.slice a len c) (.slice a' n' c') v1) := HT.out.later k1
                  have KE2 : Hid (Chg no w v1) := KE.out.then k1
                  clear HT KE k1
                  obtain ⟨c0, c1, c2, c3, c4, c5, c6, c7, c8, c9, c10⟩ := cfg_cells (HT2.out.later ((Chg.refl no v1).alloc (.cells #[.int .i64 A1, .int .i64 A2] 39))).box
                  have hrem : (m : Int).tmod (p : Int) = ((m % p : Nat) : Int) := (Int.ofNat_tmod m p).symm
                  have hml := Nat.mod_le m p
                  obtain ⟨R, hR⟩ : ∃ x, m % p = x := ⟨_, rfl⟩
                  rw [hR] at hrem hml
                  have HR : Hid (m % p = R) := hR
                  have hpz : ¬ (p : Int) = 0 := by omega
                  have hpz2 : 1 ≤ (p : Int) := by omega
                  have hp88 : (p : Int) ≤ 8 := by omega
                  clear hR
                  go_wp2_with fail
                  clear c0 c1 c2 c3 c4 c5 c6 c7 c8 c9 c10 hrem hpz hpz2 hp88
                  obtain ⟨v2, hv2⟩ : ∃ x, v1.alloc (.cells #[.int .i64 A1, .int .i64 A2] 39) = x := ⟨_, rfl⟩
                  have K3 : Chg no v1 v2 := by rw [← hv2]; exact (Chg.refl no v1).alloc _
                  have hb3 : v2.heap[v1.heap.size]? = some (.cells #[.int .i64 A1, .int .i64 A2] 39 (0, 0)) := by rw [← hv2]; exact heap_alloc_new v1 _
                  have HT3 : Hid (Tb gc gl h z b r rd wr s p q t (.slice a len c) (.slice a' n' c') v2) := HT2.out.later K3
                  have KE3 : Hid (Chg no w v2) := KE2.out.then K3
                  rw [hv2]
                  obtain ⟨g3, hg3⟩ : ∃ x, v1.heap.size = x := ⟨_, rfl⟩
                  rw [hg3] at hb3 ⊢
                  have HB3 : Hid (∀ W, Chg no v2 W → W.heap[g3]? = some (.cells #[.int .i64 A1, .int .i64 A2] 39 (0, 0))) := fun W k => k.heap hb3 id
                  obtain ⟨q0, hq0⟩ : ∃ x, m - R = x := ⟨_, rfl⟩
                  rw [show (m : Int) - (R : Int) = (q0 : Int) by omega]
                  have HQ5 : Hid (m - R = q0 ∧ R ≤ m) := ⟨hq0, hml⟩
                  clear hv2 hg3 hb3 K3 HT2 KE2 hq0 hml
                  go_loopw [13] (fun iv wq => ∃ x : Nat, q0 ≤ x ∧ x ≤ m + 1 ∧ iv = .int .i64 (x : Int) ∧ Chg no v2 wq) (fun iv _ => m + 1 - (intOf iv).toNat)
                  case atStart => exact ⟨q0, Nat.le_refl _, by have := HQ5.out; omega, rfl, Chg.refl no _⟩
                  case round =>
                    rename World => vq
                    obtain ⟨x, hx1, hx2, rfl, hC⟩ := hrel
                    have HC : Hid (Chg no v2 vq) := hC
                    have HT : Hid (Tb gc gl h z b r rd wr s p q t (.slice a len c) (.slice a' n' c') vq) := HT3.out.later hC
                    clear hC HT3
                    by_cases hlt : x ≤ m
                    · have hlti : (x : Int) ≤ (m : Int) := by omega
                      have hx40 : (x : Int) ≤ 1099511627776 := by omega
                      have HX := HCh.out x (by omega) vq a' n' c'
                      obtain ⟨⟨B1, B2⟩, hB⟩ : ∃ y, ck x = y := ⟨_, rfl⟩
                      have hcb := HCb.out x
                      have hap := HAp.out m x (by rw [HR.out, HQ5.out.1]; exact hx1) hlt
                      rw [hB] at hcb HX hap
                      rw [HA12.out] at hap
                      obtain ⟨b1, b2, b3, b4⟩ := hcb
                      simp only at b1 b2 b3 b4 hap
                      clear hB
                      obtain ⟨d0, d1, d2, d3, d4, d5, d6, d7, d8, d9, d10⟩ := lay_cells HT.out.lay
                      go_wp2_with fail
                      refine HX.mono ?_
                      rintro e y1 ⟨rfl, k1⟩
                      clear HX d0 d1 d2 d3 d4 d5 d6 d7 d8 d9 d10
                      have KY : Hid (Chg no v2 (y1.alloc (.cells #[.int .i64 B1, .int .i64 B2] 39))) := (HC.out.then k1).alloc _
                      obtain ⟨e0, _⟩ := row_cell (xs := [_, _]) (HB3.out _ KY.out) 0 _ rfl
                      obtain ⟨e1, _⟩ := row_cell (xs := [_, _]) (HB3.out _ KY.out) 1 _ rfl
                      clear k1 HC
                      by_cases hb : B1 < A1 + A2
                      · have hb2 : ¬ A1 < B1 + B2 := by omega
                        clear hap
                        go_wp2
                        go_roundw
                        case rel => exact ⟨x + 1, by omega, by omega, by go_num, KY.out⟩
                        case measure => simp [intOf]; omega
                      · clear hap
                        go_wp2
                        go_roundw
                        case rel => exact ⟨x + 1, by omega, by omega, by go_num, KY.out⟩
                        case measure => simp [intOf]; omega
                    · obtain rfl : x = m + 1 := by omega
                      have hlti : ¬ ((m + 1 : Nat) : Int) ≤ (m : Int) := by omega
                      obtain ⟨y, hy⟩ : ∃ y, ((m + 1 : Nat) : Int) = y := ⟨_, rfl⟩
                      rw [hy] at hlti ⊢
                      have KE : Hid (Chg no w vq) := KE3.out.then HC.out
                      clear hy HC KE3 HB3 hx1 hx2 hlt
                      obtain ⟨qne, qeq⟩ := HCq.out m
                      have G0 := HCg.out m (by omega)
                      have G1 := HCg.out (m + 1) (by omega)
                      have G2 := HCg.out (m + 2) (by omega)
                      rw [qeq] at G2
                      rw [show ((m + 1 : Nat) : Int) = (m : Int) + 1 by omega] at G1
                      rw [show ((m + 2 : Nat) : Int) = (m : Int) + 2 by omega] at G2
                      obtain ⟨⟨C1, C2⟩, hc⟩ : ∃ x, cg m = x := ⟨_, rfl⟩
                      obtain ⟨⟨D1, D2⟩, hd⟩ : ∃ x, cg (m + 1) = x := ⟨_, rfl⟩
                      rw [hc] at G0 G2 qne
                      rw [hd] at G1 qne
                      have n39 := fun W => neq39n W (a := C1) (b := C2) (c := D1) (d := D2) qne
                      have e39 := fun W => eql39s W C1 C2
                      have HG0 : Hid (∀ (W : World) (a' : Option Addr) (n' c' : Nat), Calls Try.prog 30 #[layV ⟨h, z, b, r, rd, wr, s, p, q, t⟩ (.slice a' n' c'), .int .i64 (m : Int)] W fun e w' => e = .returned (areaV (C1, C2)) ∧ Chg no W w') := G0
                      have HG1 : Hid (∀ (W : World) (a' : Option Addr) (n' c' : Nat), Calls Try.prog 30 #[layV ⟨h, z, b, r, rd, wr, s, p, q, t⟩ (.slice a' n' c'), .int .i64 ((m : Int) + 1)] W fun e w' => e = .returned (areaV (D1, D2)) ∧ Chg no W w') := G1
                      have HG2 : Hid (∀ (W : World) (a' : Option Addr) (n' c' : Nat), Calls Try.prog 30 #[layV ⟨h, z, b, r, rd, wr, s, p, q, t⟩ (.slice a' n' c'), .int .i64 ((m : Int) + 2)] W fun e w' => e = .returned (areaV (C1, C2)) ∧ Chg no W w') := G2
                      clear G0 G1 G2 qne qeq hc hd HCg HCq HCh HAp HCb HA12
                      go_wp2_with fail
                      obtain ⟨pK, hpK⟩ : ∃ pK : World → Prop, ∀ w', pK w' ↔ Chg no vq w' := ⟨_, fun _ => Iff.rfl⟩
                      obtain ⟨x0, x1, x2, x3, x4, x5, x6, x7, x8, x9, x10, iK⟩ := cfg_facts hpK HT.out.box
                      obtain ⟨z0, z1, z2, z3, z4, z5, z6, z7, z8, z9, z10⟩ := lay_facts hpK HT.out.lay
                      have HpK : Hid (∀ w', pK w' ↔ Chg no vq w') := hpK
                      have Y0 : Chg no vq vq.drew := (Chg.refl no vq).drew
                      clear hpK
                      refine far.region_farM (fun κ w' => pK w') [0, 4, 8, 14, 18] (by kernel_rfl) (by kernel_rfl) ((HpK.out _).2 Y0) ?_
                      intro LP e1' e2' e3'
                      refine far.farO_enter e1' e2' 0 rfl rfl 7 #[] (by kernel_rfl) (by kernel_rfl) ?_
                      refine (HFi.out _).mono ?_
                      rintro e v1 ⟨rfl, k1⟩
                      have Y1 := Y0.then k1
                      refine ⟨_, rfl, (HpK.out _).2 Y1, ?_⟩
                      simp only [Act.put, List.setIfInBounds_toArray, List.set_cons_succ, List.set_cons_zero, Nat.reduceAdd]
                      refine far.farO_stretch pK 3 0 5 e1' e2' e3' (by kernel_rfl) (by kernel_rfl) (fun κ w' hk1 hk2 hC => hC) ?_
                      simp only [List.take_succ_cons, List.take_zero, List.drop_succ_cons, List.drop_zero, Nat.reduceAdd]
                      repeat (go_big_quiet_step (fail))
                      refine wpQuiet_nil ?_
                      refine far.farO_enter e1' e2' 1 rfl rfl 30 #[layV ⟨h, z, b, r, rd, wr, s, p, q, t⟩ (.slice a' n' c'), .int .i64 (m : Int)] (by kernel_rfl) (by kernel_rfl) ?_
                      refine (HG0.out _ a' n' c').mono ?_
                      rintro e v2 ⟨rfl, k2⟩
                      have Y2 := Y1.then k2
                      refine ⟨_, rfl, (HpK.out _).2 Y2, ?_⟩
                      simp only [Act.put, List.setIfInBounds_toArray, List.set_cons_succ, List.set_cons_zero, Nat.reduceAdd]
                      refine far.farO_stretch pK 3 0 5 e1' e2' e3' (by kernel_rfl) (by kernel_rfl) (fun κ w' hk1 hk2 hC => hC) ?_
                      simp only [List.take_succ_cons, List.take_zero, List.drop_succ_cons, List.drop_zero, Nat.reduceAdd]
                      repeat (go_big_quiet_step (fail))
                      refine wpQuiet_nil ?_
                      refine far.farO_enter e1' e2' 2 rfl rfl 30 #[layV ⟨h, z, b, r, rd, wr, s, p, q, t⟩ (.slice a' n' c'), .int .i64 ((m : Int) + 1)] (by kernel_rfl) (by kernel_rfl) ?_
                      refine (HG1.out _ a' n' c').mono ?_
                      rintro e v3 ⟨rfl, k3⟩
                      have Y3 := Y2.then k3
                      refine ⟨_, rfl, (HpK.out _).2 Y3, ?_⟩
                      simp only [Act.put, List.setIfInBounds_toArray, List.set_cons_succ, List.set_cons_zero, Nat.reduceAdd]
                      refine far.farO_stretch pK 5 0 5 e1' e2' e3' (by kernel_rfl) (by kernel_rfl) (fun κ w' hk1 hk2 hC => hC) ?_
                      simp only [List.take_succ_cons, List.take_zero, List.drop_succ_cons, List.drop_zero, Nat.reduceAdd]
                      repeat (go_big_quiet_step (fail))
                      refine wpQuiet_nil ?_
                      refine far.farO_enter e1' e2' 3 rfl rfl 30 #[layV ⟨h, z, b, r, rd, wr, s, p, q, t⟩ (.slice a' n' c'), .int .i64 (m : Int)] (by kernel_rfl) (by kernel_rfl) ?_
                      refine (HG0.out _ a' n' c').mono ?_
                      rintro e v4 ⟨rfl, k4⟩
                      have Y4 := Y3.then k4
                      refine ⟨_, rfl, (HpK.out _).2 Y4, ?_⟩
                      simp only [Act.put, List.setIfInBounds_toArray, List.set_cons_succ, List.set_cons_zero, Nat.reduceAdd]
                      refine far.farO_stretch pK 3 0 5 e1' e2' e3' (by kernel_rfl) (by kernel_rfl) (fun κ w' hk1 hk2 hC => hC) ?_
                      simp only [List.take_succ_cons, List.take_zero, List.drop_succ_cons, List.drop_zero, Nat.reduceAdd]
                      repeat (go_big_quiet_step (fail))
                      refine wpQuiet_nil ?_
                      refine far.farO_enter e1' e2' 4 rfl rfl 30 #[layV ⟨h, z, b, r, rd, wr, s, p, q, t⟩ (.slice a' n' c'), .int .i64 ((m : Int) + 2)] (by kernel_rfl) (by kernel_rfl) ?_
                      refine (HG2.out _ a' n' c').mono ?_
                      rintro e v5 ⟨rfl, k5⟩
                      have Y5 := Y4.then k5
                      refine ⟨_, rfl, (HpK.out _).2 Y5, ?_⟩
                      simp only [Act.put, List.setIfInBounds_toArray, List.set_cons_succ, List.set_cons_zero, Nat.reduceAdd]
                      refine far.farO_stretch pK 3 0 5 e1' e2' e3' (by kernel_rfl) (by kernel_rfl) (fun κ w' hk1 hk2 hC => hC) ?_
                      simp only [List.take_succ_cons, List.take_zero, List.drop_succ_cons, List.drop_zero, Nat.reduceAdd]
                      repeat (go_big_quiet_step (fail))
                      refine wpQuiet_nil ?_
                      refine far.farO_nil ?_
                      go_wp2
                      go_ret
                      exact ⟨rfl, (KE.out.then Y5).below⟩

end Go.Proofs.Ytfhpdcimdeilpaa.apart
