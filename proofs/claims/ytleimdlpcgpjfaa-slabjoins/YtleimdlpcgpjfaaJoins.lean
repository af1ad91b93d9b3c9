/-
  Proved: for every width, every list of numbers, every list of bytes and every size the law SlabJoins returns true and leaves its arguments as they were; no condition.
-/
import Derived.Test.YtleimdlpcgpjfaaJoinsS
import Derived.Below
namespace Go.Proofs.Ytleimdlpcgpjfaa.slabJoins
open Go.ChangeShapes Go.WideShapes Go.ChangeAt Go.RowKit Go.Proofs.Ytleimdlpcgpjfaa.hp Go.Proofs.Ytleimdlpcgpjfaa.dg Go.Proofs.Ytleimdlpcgpjfaa.st
set_option linter.unusedVariables false

set_option maxRecDepth 100000 in
set_option maxHeartbeats 4000000 in
theorem early (w : World) (k : Int) (a1 : Option Addr) (L1 c1 : Nat) (a2 : Option Addr) (L2 c2 : Nat) (s : Int) (hh : k < 1 ∨ 7 < k ∨ 200 < L1 ∨ 2000 < L2 ∨ s < 1 ∨ 2000 < s) :
    Calls Try.prog 8 #[.int .i64 k, .slice a1 L1 c1, .slice a2 L2 c2, .int .i64 s] w fun e w' => e = .returned (.bool true) ∧ Below w.heap.size w w' := by
  have hc : k < 1 ∨ (1 ≤ k ∧ 7 < k) ∨ (1 ≤ k ∧ k ≤ 7 ∧ (200 : Int) < L1) ∨ (1 ≤ k ∧ k ≤ 7 ∧ (L1 : Int) ≤ 200 ∧ (2000 : Int) < L2) ∨ (1 ≤ k ∧ k ≤ 7 ∧ (L1 : Int) ≤ 200 ∧ (L2 : Int) ≤ 2000 ∧ s < 1) ∨ (1 ≤ k ∧ k ≤ 7 ∧ (L1 : Int) ≤ 200 ∧ (L2 : Int) ≤ 2000 ∧ 1 ≤ s ∧ 2000 < s) := by omega
  clear hh
  rcases hc with h1 | ⟨h1, h2⟩ | ⟨h1, h2, h3⟩ | ⟨h1, h2, h3, h4⟩ | ⟨h1, h2, h3, h4, h5⟩ | ⟨h1, h2, h3, h4, h5, h6⟩
  all_goals
    go_enter Try.func8, Try.ntmps8
    go_wp2_with fail
    refine (first_any _).mono ?_
    rintro e w1 ⟨rfl, k1⟩
    go_wp2_with fail
    refine (first_any _).mono ?_
    rintro e w3 ⟨rfl, k3⟩
    go_wp2
    go_ret
    exact ⟨rfl, (k1.then k3).below⟩

set_option maxRecDepth 100000 in
set_option maxHeartbeats 16000000 in
theorem late (w : World) (k : Nat) (a1 : Option Addr) (c1 : Nat) (ns : List Int) (a2 : Option Addr) (c2 : Nat) (zs : List Int) (s : Nat) (hn : Lies (Old w) w (.slice a1 ns.length c1) (ns.map (Value.int .i64))) (hv : Lies (Old w) w (.slice a2 zs.length c2) (zs.map (Value.int .u8))) (hc : zs.length ≤ c2)
    (h1 : 1 ≤ k) (h2 : k ≤ 7) (h3 : ns.length ≤ 200) (h4 : zs.length ≤ 2000) (h5 : 1 ≤ s) (h6 : s ≤ 2000) :
    Calls Try.prog 8 #[.int .i64 k, .slice a1 ns.length c1, .slice a2 zs.length c2, .int .i64 s] w fun e w' => e = .returned (.bool true) ∧ Below w.heap.size w w' := by
  have i1 : (1 : Int) ≤ k := by omega
  have i2 : (k : Int) ≤ 7 := by omega
  have i3 : (ns.length : Int) ≤ 200 := by omega
  have i4 : (zs.length : Int) ≤ 2000 := by omega
  have i5 : (1 : Int) ≤ s := by omega
  have i6 : (s : Int) ≤ 2000 := by omega
  have hm := most_ge k h1 h2
  obtain ⟨P, hP, hP2⟩ : ∃ P, wrap64 (2 ^ (8 * k)) = P ∧ P - 1 = most k := by
    have q1 := pow_le k h2
    have q2 := pow_pos k
    refine ⟨2 ^ (8 * k), IntWalk.wrap64_in _ ⟨by omega, by omega⟩, rfl⟩
  obtain ⟨M, hM⟩ : ∃ M, most k = M := ⟨_, rfl⟩
  have HM : Hid (most k = M) := hM
  rw [hM] at hm hP2
  obtain rfl : P = M + 1 := by omega
  obtain ⟨m1, m2⟩ := hm
  clear hP2 hM
  have HNS : Hid (Lies (Old w) w (.slice a1 ns.length c1) (ns.map (Value.int .i64))) := hn
  have HZS : Hid (Lies (Old w) w (.slice a2 zs.length c2) (zs.map (Value.int .u8))) := hv
  have HCu := fun w1 k1 => cut_any w1 a2 c2 zs s (hv.chg (F := no) (w' := w1) k1 (fun _ _ h => h)) hc (by omega) (by omega)
  have HNum := fun (wr : World) p1 p2 k1 (h : Two w (Old w) p1 p2 ([], false) ([], false) wr) => h.num (k : Int) (hn.chg (F := no) (w' := wr) k1 (fun _ _ h => h)) (by simp) (by omega)
  have HRaw := fun (wr w1 : World) p1 p2 g k0 (h : Two w (Old w) p1 p2 (nums (k : Int) ([], false) ns) ([], false) wr) k1 hg hgn => h.rawTwo (hv.chg (F := no) (w' := wr) k0 (fun _ _ h => h)) (w1 := w1) (g := g) k1 hg hgn (by
    have := fold_len (k : Int) ns (brk (k : Int) ([], false))
    have e : (nums (k : Int) ([], false) ns).1.length ≤ 0 + 7 * ns.length := by simpa [nums, brk] using this
    omega)
  have HLast := fun (wr w1 : World) (N PB : Nat → Prop) p1 p2 S E vl g (h : Pie w N PB p1 p2 S E zs s (ncell zs.length s) vl (ncell zs.length s) wr) hE k0 k1 hg hgn => h.last rfl h5 hE h4 (hv.chg (F := no) (w' := wr) k0 (fun _ _ h => h)) (w1 := w1) (g := g) k1 hg hgn
  have HCell : Hid (∀ wr : World, Chg no w wr → ∀ j, j < ns.length → ∃ y, a1 = some y ∧ wr.cell? (y.add j) = some (.int .i64 (ns.getD j 0)) ∧ (y.add j).block < wr.heap.size) := by
    intro wr hC j hj
    obtain ⟨x, c, hx, hcell⟩ := hn.slice
    simp only [List.length_map] at hx
    cases hx
    obtain ⟨y, hy, hy2, hy3⟩ := hcell j (.int .i64 (ns.getD j 0)) (by rw [List.getElem?_map, List.getD_eq_getElem?_getD, List.getElem?_eq_getElem hj]; rfl)
    have := hC.cell hy3 (fun h => h)
    exact ⟨y, hy, this, World.block_lt_of_cell? _ _ this⟩
  have HAll : Hid (nums (k : Int) ([], false) ns = vs k ns ns.length) := vs_all k ns h1 h2
  rw [HAll.out] at HRaw
  rw [HAll.out] at HNum
  have hcell := ncell_le zs.length s
  have HNlt : Hid (∀ j, j < ncell zs.length s → j * s < zs.length) := fun j hj => (ncell_lt _ _ _ hj).1
  simp only [Int.toNat_natCast] at HCu
  obtain ⟨C, hC⟩ : ∃ C, ncell zs.length s = C := ⟨_, rfl⟩
  rw [hC] at HCu HLast hcell HNlt
  obtain ⟨n1, hn1⟩ : ∃ n1, ns.length = n1 := ⟨_, rfl⟩
  have HN1 : Hid (ns.length = n1) := hn1
  obtain ⟨n2, hn2⟩ : ∃ n2, zs.length = n2 := ⟨_, rfl⟩
  have HN2 : Hid (zs.length = n2) := hn2
  rw [hn1] at HRaw HNum i3 h3 HCell ⊢
  rw [hn2] at HRaw HCu HLast i4 h4 hc hcell HNlt ⊢
  clear hn hv hC hn1 hn2 HAll
  have i7 : (n2 : Int) ≤ c2 := by omega
  have q0 : (0 : Int) ≤ (k : Int) * (n1 : Int) := Int.mul_nonneg (by omega) (by omega)
  have q1 : (k : Int) * (n1 : Int) ≤ 1400 := by
    have : k * n1 ≤ 7 * 200 := Nat.mul_le_mul h2 h3
    have e : ((k * n1 : Nat) : Int) = (k : Int) * (n1 : Int) := by simp
    omega
  go_enter Try.func8, Try.ntmps8
  go_wp2_with fail
  refine (first_any _).mono ?_
  rintro e w1 ⟨rfl, k1⟩
  go_wp2_with fail
  have T0 := Two.new k1
  obtain ⟨w4, hw4⟩ : ∃ w4, ((w1.alloc (.cells #[.slice none 0 0, .bool false] 28)).alloc (.cells #[.slice none 0 0, .bool false] 28)) = w4 := ⟨_, rfl⟩
  obtain ⟨p1, hp1⟩ : ∃ p1, w1.heap.size = p1 := ⟨_, rfl⟩
  obtain ⟨p2, hp2⟩ : ∃ p2, p1 + 1 = p2 := ⟨_, rfl⟩
  rw [hw4, hp1, hp2] at T0
  simp only [hw4, hp1, hp2]
  clear hw4 hp1 hp2 k1
  have NU := HNum w4 p1 p2 T0.chg T0
  clear HNum T0
  refine NU.mono ?_
  rintro e w5 ⟨rfl, T1⟩
  clear NU
  have RA := HRaw w5 _ p1 p2 _ T1.chg T1 ((Chg.refl no w5).alloc _) (heap_alloc_new w5 (.cells #[.slice a2 n2 c2, .slice a2 n2 c2] 26)) (Nat.le_refl _)
  clear HRaw
  obtain ⟨S, hS⟩ : ∃ S, raws (vs k ns n1) [zs, zs] = S := ⟨_, rfl⟩
  have HS : Hid (raws (vs k ns n1) [zs, zs] = S) := hS
  rw [hS] at RA
  clear hS
  go_wp2_with fail
  refine RA.mono ?_
  rintro e w6 ⟨rfl, T2⟩
  have B0 : Hid (One w p1 p2 k ns S 0 w6) := ⟨T2, rfl, rfl⟩
  clear RA T1 T2
  go_wp2_with fail
  go_loopw [11] (fun i wr => ∃ j : Nat, j ≤ n1 ∧ i = .int .i64 (j : Int) ∧ One w p1 p2 k ns S j wr) (fun i _ => n1 - (intOf i).toNat)
  case atStart => exact ⟨0, by omega, rfl, B0.out⟩
  case round =>
    clear B0
    obtain ⟨j, hj, rfl, hB⟩ := hrel
    by_cases hjn : j < n1
    · have hji : (j : Int) < n1 := by omega
      obtain ⟨y, rfl, hcy, hlt⟩ := HCell.out wr hB.1.chg j hjn
      have HK : Hid (Chg no w wr) := hB.1.chg
      have HNN : Hid (-1 ≤ ns.getD j 0 → ns.getD j 0 < most k → ∀ (wa : World) (g : Nat), Chg no wr wa → wa.heap[g]? = some (.cells #[.int .i64 (ns.getD j 0)] 3 (0, 0)) → wr.heap.size ≤ g → Calls Try.prog 12 #[.pointer (some ⟨p2, 0, none⟩), .int .i64 k, .slice (some ⟨g, 0, none⟩) 1 1] wa fun e w' => e = .returned (.pointer (some ⟨p2, 0, none⟩)) ∧ One w p1 p2 k ns S (j + 1) w') :=
        fun x1 x2 wa g k1 hg hgn => hB.num (by rw [HN1.out]; exact hjn) (by rw [HN1.out]; exact h3) h1 h2 rfl x1 x2 k1 hg hgn
      obtain ⟨n, hn⟩ : ∃ n, ns.getD j 0 = n := ⟨_, rfl⟩
      rw [hn] at hcy HNN
      rw [HM.out] at HNN
      clear hn hB HCu HLast
      by_cases hbad : n < -1 ∨ M - 1 < n
      · have hc : n < -1 ∨ (-1 ≤ n ∧ M - 1 < n) := by omega
        clear hbad HNN
        rcases hc with x1 | ⟨x1, x2⟩
        all_goals
          go_wp2_with fail
          refine (first_any _).mono ?_
          rintro e w7 ⟨rfl, k7⟩
          go_wp2
          go_ret
          exact ⟨rfl, (HK.out.then k7).below⟩
      · have x1 : -1 ≤ n := by omega
        have x2 : n ≤ M - 1 := by omega
        have HNM : Hid (∀ (wa : World) (g : Nat), Chg no wr wa → wa.heap[g]? = some (.cells #[.int .i64 n] 3 (0, 0)) → wr.heap.size ≤ g → Calls Try.prog 12 #[.pointer (some ⟨p2, 0, none⟩), .int .i64 k, .slice (some ⟨g, 0, none⟩) 1 1] wa fun e w' => e = .returned (.pointer (some ⟨p2, 0, none⟩)) ∧ One w p1 p2 k ns S (j + 1) w') := HNN.out (by omega) (by omega)
        clear hbad HNN
        have NW := HNM.out _ _ ((Chg.refl no wr).alloc _) (heap_alloc_new wr (.cells #[.int .i64 n] 3)) (Nat.le_refl _)
        clear HNM
        go_wp2_with fail
        refine NW.mono ?_
        rintro e w7 ⟨rfl, hP⟩
        clear NW
        go_wp2
        go_roundw
        case rel => exact ⟨j + 1, by omega, by go_num, hP⟩
        case measure => simp [intOf]; omega
    · obtain rfl : j = n1 := by omega
      have hji : (j : Int) ≤ (j : Int) := by omega
      have CU := HCu wr hB.1.chg
      obtain ⟨T3, hf, hL⟩ := hB
      obtain ⟨⟨E, f⟩, hE⟩ : ∃ X, vs k ns j = X := ⟨_, rfl⟩
      rw [hE] at T3 hf hL
      have HS2 := HS.out
      rw [hE] at HS2
      simp only at hf hL
      subst hf
      have hSS : S = (E ++ (zs ++ zs), false) := by rw [← HS2]; simp [raws]
      subst hSS
      clear HS HS2 hE HCu HCell
      obtain ⟨w7, hw7⟩ : ∃ w7, w7 = wr := ⟨_, rfl⟩
      rw [← hw7] at CU T3
      rw [← hw7]
      clear hw7
      go_wp2_with fail
      refine CU.mono ?_
      rintro e w8 ⟨vl, rfl, PC, k8⟩
      obtain ⟨la, ll, lc, hvl⟩ : ∃ la ll lc, vl = .slice la ll lc := by
        obtain ⟨gf, q, _⟩ := PC
        obtain ⟨x, y, hx, _⟩ := q.slice
        exact ⟨_, _, _, hx⟩
      subst hvl
      obtain rfl : ll = C := PC.at.1
      have T4 := T3.keep k8
      clear CU
      obtain ⟨PB, hPB⟩ : ∃ PB : Nat → Prop, (fun b => w7.heap.size ≤ b ∧ b < w8.heap.size) = PB := ⟨_, rfl⟩
      obtain ⟨N, hN⟩ : ∃ N : Nat → Prop, (fun b => Old w b ∨ (w7.heap.size ≤ b ∧ b < w8.heap.size)) = N := ⟨_, rfl⟩
      have hPN : ∀ b, PB b → N b := fun b hb => by rw [← hN]; rw [← hPB] at hb; exact .inr hb
      rw [hN] at T4
      rw [hPB] at PC
      have B1 : Hid (Pie w N PB p1 p2 (E ++ (zs ++ zs), false) E zs s ll (.slice la ll lc) 0 w8) := ⟨by simpa using T4, PC, hPN⟩
      have HL2 : Hid (∀ (wr w1 : World) g, Pie w N PB p1 p2 (E ++ (zs ++ zs), false) E zs s ll (.slice la ll lc) ll wr → Chg no wr w1 → w1.heap[g]? = some (.cells #[.slice a2 n2 c2] 26 (0, 0)) → wr.heap.size ≤ g →
          Calls Try.prog 11 #[.pointer (some ⟨p2, 0, none⟩), .slice (some ⟨g, 0, none⟩) 1 1] w1 fun e w' => e = .returned (.pointer (some ⟨p2, 0, none⟩)) ∧ Two w N p1 p2 (E ++ (zs ++ zs), false) (E ++ (zs ++ zs), false) w') := by
        intro wr w1 g h k1 hg hgn
        have hb : k * j ≤ 7 * 200 := Nat.mul_le_mul h2 h3
        exact HLast wr w1 N PB p1 p2 _ E _ g h (by omega) h.1.chg k1 hg hgn
      have HRW : Hid (∀ (t : Nat) (wr : World), t < ll → Pie w N PB p1 p2 (E ++ (zs ++ zs), false) E zs s ll (.slice la ll lc) t wr → ∀ m, m = min s (n2 - t * s) → ∃ x g, la = some x ∧ wr.cell? (x.add t) = some (.slice (some ⟨g, 0, none⟩) s s) ∧ (x.add t).block < wr.heap.size ∧ ∀ w1 g1, Chg no wr w1 → w1.heap[g1]? = some (.cells #[.slice (some ⟨g, 0, none⟩) m s] 26 (0, 0)) → wr.heap.size ≤ g1 →
          Calls Try.prog 11 #[.pointer (some ⟨p2, 0, none⟩), .slice (some ⟨g1, 0, none⟩) 1 1] w1 fun e w' => e = .returned (.pointer (some ⟨p2, 0, none⟩)) ∧ Pie w N PB p1 p2 (E ++ (zs ++ zs), false) E zs s ll (.slice la ll lc) (t + 1) w') := by
        intro t wr ht h m hm
        have hb : k * j ≤ 7 * 200 := Nat.mul_le_mul h2 h3
        exact h.raw ht (by rw [HN2.out]; omega) (by rw [HN2.out]; exact hm)
      obtain ⟨XX, hXX⟩ : ∃ XX, E ++ (zs ++ zs) = XX := ⟨_, rfl⟩
      have hXl : XX.length = k * j + 2 * n2 := by
        rw [← hXX, List.length_append, List.length_append, hL, HN2.out]
        omega
      rw [hXX] at B1 HL2 HRW
      clear T3 T4 hPB hN hPN PC HLast hXX hL k8
      go_wp2_with fail
      go_loopw [13, 14] (fun i _ wr => ∃ t : Nat, t ≤ ll ∧ i = .int .i64 (t : Int) ∧ Pie w N PB p1 p2 (XX, false) E zs s ll (.slice la ll lc) t wr) (fun i _ _ => ll - (intOf i).toNat)
      case atStart => exact ⟨0, by omega, rfl, B1.out⟩
      case round =>
        clear B1
        obtain ⟨t, ht, rfl, hB⟩ := hrel
        have hXi : (XX.length : Int) = (k : Int) * (j : Int) + 2 * (n2 : Int) := by
          have e : ((k * j : Nat) : Int) = (k : Int) * (j : Int) := by simp
          omega
        by_cases htn : t < ll
        · have hti : (t : Int) < ll := by omega
          have hts := HNlt.out t htn
          have hts1 : ((t * s : Nat) : Int) = (t : Int) * (s : Int) := by simp
          have t0 : (0 : Int) ≤ (t : Int) * (s : Int) := Int.mul_nonneg (by omega) (by omega)
          have t1 : (t : Int) * (s : Int) < n2 := by omega
          obtain ⟨m, hm⟩ : ∃ m, m = min s (n2 - t * s) := ⟨_, rfl⟩
          have hm1 : 1 ≤ m := by omega
          have hm2 : (m : Int) ≤ s := by omega
          have hm3 : (if (n2 : Int) - (t : Int) * (s : Int) < (s : Int) then (n2 : Int) - (t : Int) * (s : Int) else (s : Int)) = (m : Int) := by
            split <;> omega
          have hm4 : (1 : Int) ≤ m := by omega
          obtain ⟨x, g, rfl, hcx, hlt, HW⟩ := HRW.out t wr htn hB m hm
          have RW := HW _ _ ((Chg.refl no wr).alloc _) (heap_alloc_new wr (.cells #[.slice (some ⟨g, 0, none⟩) m s] 26)) (Nat.le_refl _)
          clear HW HRW HL2 hm hB hXi hts hts1
          go_wp2_with fail
          refine RW.mono ?_
          rintro e w9 ⟨rfl, hP⟩
          clear RW
          go_wp2
          go_roundw
          case rel => exact ⟨t + 1, by omega, by go_num, hP⟩
          case measure => simp [intOf]; omega
        · obtain rfl : t = ll := by omega
          have hti : (t : Int) ≤ (t : Int) := by omega
          have RW := HL2.out wr _ _ hB ((Chg.refl no wr).alloc _) (heap_alloc_new wr (.cells #[.slice a2 n2 c2] 26)) (Nat.le_refl _)
          clear HRW HL2 hB HNlt
          obtain ⟨T, hT⟩ : ∃ T, XX.length = T := ⟨_, rfl⟩
          have HT : Hid (XX.length = T) := hT
          rw [hT] at hXi hXl
          have hT2 : (T : Int) ≤ 5400 := by omega
          have hT3 : 0 ≤ (T : Int) := by omega
          have hT4 : T ≤ 5400 := by omega
          have HXi : Hid ((T : Int) = (k : Int) * (j : Int) + 2 * (n2 : Int)) := hXi
          clear hT hXl hXi
          go_wp2_with fail
          refine RW.mono ?_
          rintro e wa ⟨rfl, T5⟩
          clear RW
          have LN := T5.len
          simp only [HT.out] at LN
          have SA := T5.seal rfl (T + 3) ((T : Int) + 3) (by omega) (by omega) (by simp only [HT.out]; omega)
          have HSB : Hid (∀ wb, Chg no wa wb → Calls Try.prog 15 #[.pointer (some ⟨p2, 0, none⟩), .int .i64 ((T : Int) + 3)] wb fun e w' => e = .returned (.tuple #[.slice (some ⟨wb.heap.size, 0, none⟩) (T + 3) (T + 3), .int .i64 0]) ∧
              w'.heap[wb.heap.size]? = some (.cells ((fill XX (T + 3)).map (Value.int .u8)).toArray 5 (0, 0)) ∧ Chg no wb w') := fun wb kb =>
            (T5.same kb).swap.seal rfl (T + 3) ((T : Int) + 3) (by omega) (by omega) (by simp only [HT.out]; omega)
          have HKa : Hid (Chg no w wa) := T5.chg
          obtain ⟨Y, hY⟩ : ∃ Y, fill XX (T + 3) = Y := ⟨_, rfl⟩
          have hYl : Y.length = T + 3 := by rw [← hY]; exact fill_length _ _ (by rw [HT.out]; omega)
          simp only [hY] at SA HSB
          have HYl : Hid (Y.length = T + 3) := hYl
          clear T5 hY hYl
          go_wp2_with fail
          refine LN.mono ?_
          rintro e wb ⟨rfl, rfl⟩
          clear LN
          go_wp2_with fail
          refine SA.mono ?_
          rintro e wc ⟨rfl, gc, kc⟩
          clear SA
          have SB := HSB.out wc kc
          have HG1 : Hid (wc.heap[wb.heap.size]? = some (.cells (Y.map (Value.int .u8)).toArray 5 (0, 0))) := gc
          have HKc : Hid (Chg no w wc) := HKa.out.then kc
          clear HSB gc kc
          go_wp2_with fail
          refine SB.mono ?_
          rintro e wd ⟨rfl, gd, kd⟩
          clear SB
          have HBy : Hid (∀ we, Chg no wd we → Calls Try.prog 16 #[.slice (some ⟨wb.heap.size, 0, none⟩) (T + 3) (T + 3), .slice (some ⟨wc.heap.size, 0, none⟩) (T + 3) (T + 3)] we fun e w' => e = .returned (.bool true) ∧ w' = we) := by
            intro we ke
            have q1 := block_lies ((kd.then ke).heap HG1.out (fun h => h))
            have q2 := block_lies (ke.heap gd (fun h => h))
            rw [HYl.out] at q1 q2
            exact bytes_same q1 q2
          have HKd : Hid (Chg no w wd) := HKc.out.then kd
          clear HG1 gd kd
          go_wp2_with fail
          refine (first_any _).mono ?_
          rintro e we ⟨rfl, ke⟩
          have BY := HBy.out we ke
          have hXi := HXi.out
          clear HBy
          go_wp2_with fail
          refine BY.mono ?_
          rintro e wf ⟨rfl, rfl⟩
          go_wp2
          go_ret
          exact ⟨rfl, (HKd.out.then ke).below⟩

theorem walk (w : World) (k : Int) (a1 : Option Addr) (len1 cap1 : Nat) (ns : List Int) (a2 : Option Addr) (len2 cap2 : Nat) (zs : List Int) (s : Int) (w0 : (Lit.int .i64 k).wf = true) (A1 : Lies (Old w) w (.slice a1 len1 cap1) (ns.map (Value.int .i64))) (c1 : len1 ≤ cap1) (A2b : Lies (Old w) w (.slice a2 len2 cap2) (zs.map (Value.int .u8)) ∧ Bytes zs) (c2 : len2 ≤ cap2) (w3 : (Lit.int .i64 s).wf = true) :
    Calls Try.prog 8 #[.int .i64 k, .slice a1 len1 cap1, .slice a2 len2 cap2, .int .i64 s] w fun e w' => e = .returned (.bool true) ∧ Below w.heap.size w w' := by
  obtain ⟨A2, _⟩ := A2b
  obtain ⟨x1, d1, hx1, _⟩ := A1.slice
  simp only [List.length_map] at hx1
  cases hx1
  obtain ⟨x2, d2, hx2, _⟩ := A2.slice
  simp only [List.length_map] at hx2
  cases hx2
  by_cases hh : k < 1 ∨ 7 < k ∨ 200 < ns.length ∨ 2000 < zs.length ∨ s < 1 ∨ 2000 < s
  · exact early w k a1 _ _ a2 _ _ s hh
  · obtain ⟨K, rfl⟩ := Int.eq_ofNat_of_zero_le (show 0 ≤ k by omega)
    obtain ⟨Z, rfl⟩ := Int.eq_ofNat_of_zero_le (show 0 ≤ s by omega)
    exact late w K a1 cap1 ns a2 cap2 zs Z A1 A2 c2 (by omega) (by omega) (by omega) (by omega) (by omega) (by omega)

theorem own : ownKnob Try.prog.godebug = none := by kernel_rfl
theorem laidOut : laidOutB Try.prog = true := by kernel_rfl

set_option maxRecDepth 100000 in
theorem lifted (os : Os) (started : os.Started) (H : Type) (enc : TypeId × Value → H) :
    ReturnsInHanded {} Try.checked os 8 .any (Rows.slabJoinsSpec.pre6 enc Try.prog Try.f8 Rows.slabJoinsRow.domain false) (Rows.slabJoinsSpec.post enc Try.prog Try.f8 false true false false) := by
  refine returnsInHanded_of_change (C := Try.checked) own started (by kernel_rfl) Try.func8
    (ChangeSpec.witness6 (enc := enc) (C := Try.checked) false ⟨#[], #[.int .i64 0, .slice none 0 0, .slice none 0 0, .int .i64 0], []⟩ 8 (by kernel_rfl) (by kernel_rfl) (by kernel_rfl) (by kernel_rfl)) ?_
  intro W base args ds gs before hval0 hW hcnd _
  have hval : ∀ (j : Nat) t v, Try.f8.params[j]? = some t → args[j]? = some v → Value.okWide Try.prog W .any base t v := hval0
  have hW' := hW
  obtain ⟨p, q, hA0, hV, rfl, hfz, hnd⟩ := hW
  have hA : DataW.TrodAll enc Try.prog W 0 (fun _ => true) true Try.f8.params.toList args.toList ds p := hA0
  rw [Try.params8] at hA hval
  obtain ⟨v0, vs0, d0, ds0, p0, q0, hargs, rfl, rfl, h0, r0⟩ := trodAll_cons hA
  obtain ⟨v1, vs1, d1, ds1, p1, q1, rfl, rfl, rfl, h1, r1⟩ := trodAll_cons r0
  obtain ⟨v2, vs2, d2, ds2, p2, q2, rfl, rfl, rfl, h2, r2⟩ := trodAll_cons r1
  obtain ⟨v3, vs3, d3, ds3, p3, q3, rfl, rfl, rfl, h3, r3⟩ := trodAll_cons r2
  obtain ⟨rfl, rfl, rfl⟩ := trodAll_nil r3
  obtain rfl : args = #[v0, v1, v2, v3] := by cases args; simp_all
  obtain ⟨rfl, rfl⟩ := trodVars_none hV
  obtain ⟨a0, rfl, rfl, rfl, w0⟩ := open_int Try.underlying3 (hval 0 3 v0 rfl rfl) h0
  obtain ⟨a1, len1, cap1, rfl⟩ := okWide_slice Try.underlying55 (hval 1 55 v1 rfl rfl)
  have k1 := h1
  have lt1 : ∀ x ∈ p1, x.block < W.heap.size := by obtain ⟨m, hm⟩ := k1; exact DataW.trod_lt m _ _ _ hm
  have c1 : len1 ≤ cap1 := by obtain ⟨m, hm⟩ := k1; exact (open_cap Try.underlying55 hm).1
  obtain ⟨z1, w1⟩ := (by obtain ⟨fuel, hf⟩ := h1; exact open_nums hf : ∃ z : List Int, Lies (Old W) W (.slice a1 len1 cap1) (z.map (Value.int .i64)))
  obtain ⟨a2, len2, cap2, rfl⟩ := okWide_slice Try.underlying26 (hval 2 26 v2 rfl rfl)
  have k2 := h2
  have lt2 : ∀ x ∈ p2, x.block < W.heap.size := by obtain ⟨m, hm⟩ := k2; exact DataW.trod_lt m _ _ _ hm
  have c2 : len2 ≤ cap2 := by obtain ⟨m, hm⟩ := k2; exact (open_cap Try.underlying26 hm).1
  obtain ⟨z2, w2⟩ := (by obtain ⟨fuel, hf⟩ := h2; exact open_bytes hf : ∃ z : List Int, Lies (Old W) W (.slice a2 len2 cap2) (z.map (Value.int .u8)) ∧ Bytes z)
  obtain ⟨a3, rfl, rfl, rfl, w3⟩ := open_int Try.underlying3 (hval 3 3 v3 rfl rfl) h3
  clear hA0 hval0
  refine (walk W a0 a1 len1 cap1 z1 a2 len2 cap2 z2 a3 w0 w1 c1 w2 c2 w3).mono fun e W' ⟨he, bel⟩ => ?_
  subst he
  exact ⟨_, rfl, _, _, _, [], _, [], hW', trodAll_mk1 (shut_bool Try.underlying4 _), (trodAll_cons_mk (shut_int Try.underlying3 w0) (trodAll_cons_mk (Below.trod laidOut (by kernel_rfl) (of_decide_eq_true (by kernel_rfl)) k1 bel lt1) (trodAll_cons_mk (Below.trod laidOut (by kernel_rfl) (of_decide_eq_true (by kernel_rfl)) k2 bel lt2) (trodAll_cons_mk (shut_int Try.underlying3 w3) trodAll_mk0)))), rfl, bel.frame _, fun h => by cases h⟩

theorem over : Rows.slabJoinsRow.holds Try.pinned (OpenSpec.ofChange Rows.slabJoinsSpec) :=
  OpenClaim.holds_of_wide 8 Try.f8 rfl rfl rfl rfl rfl rfl rfl ⟨rfl, rfl, rfl, rfl, rfl⟩ rfl rfl rfl rfl rfl (by kernel_rfl) Try.func8 (by kernel_rfl)
    (of_decide_eq_true (by kernel_rfl)) (by unfold Func.isWrapper; first | (rw [if_pos (by decide +kernel)]; kernel_rfl) | (rw [if_neg (by decide +kernel)]; exact ⟨rfl, rfl⟩))
    (fun os started H enc _ => lifted os started H enc)

theorem proved : Rows.SlabJoinsSaid := over
end Go.Proofs.Ytleimdlpcgpjfaa.slabJoins
namespace Go.Proofs.Ytleimdlpcgpjfaa
theorem slabJoins_holds : Rows.SlabJoinsSaid := slabJoins.proved
#print axioms slabJoins_holds
end Go.Proofs.Ytleimdlpcgpjfaa
