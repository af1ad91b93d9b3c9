/-
  Proved: for every list of bytes the law CellsOwn returns true and leaves its argument as it was; no condition.
-/
import Derived.Test.YtjmdjadnllakpaaCopy
import Derived.Below
namespace Go.Proofs.Ytjmdjadnllakpaa.cellsOwn
open Go.ChangeShapes Go.WideShapes Go.ChangeAt Go.RowKit Go.Proofs.Ytjmdjadnllakpaa.hp Go.Proofs.Ytjmdjadnllakpaa.md Go.Proofs.Ytjmdjadnllakpaa.st
set_option linter.unusedVariables false

theorem early (w : World) (a0 : Option Addr) (len0 cap0 : Nat) (hh : len0 < 1 ∨ 1000 < len0) :
    Calls Try.prog 6 #[.slice a0 len0 cap0] w fun e w' => e = .returned (.bool true) ∧ Below w.heap.size w w' := by
  have hc : ((len0 : Int) < 1) ∨ (1 ≤ (len0 : Int) ∧ 1000 < (len0 : Int)) := by omega
  clear hh
  rcases hc with h1 | ⟨h1, h2⟩
  all_goals
    go_enter Try.func6, Try.ntmps6
    go_wp2_with fail
    refine (first_any _).mono ?_
    rintro e w1 ⟨rfl, k1⟩
    go_wp2_with fail
    refine (first_any _).mono ?_
    rintro e w3 ⟨rfl, k3⟩
    go_wp2
    go_ret
    exact ⟨rfl, (k1.then k3).below⟩

/-- The store behind the write, with so many operations. -/
def wrote (n : Nat) (v : Value) (zs : List Int) : Mod := Mod.put (Mod.new 2 n).began (1, v, zs)

theorem wrote_now (n : Nat) (v : Value) (zs : List Int) : ((wrote n v zs).now.getD 1 dC).2 = zs := rfl
theorem wrote_began (n : Nat) (v : Value) (zs : List Int) : (((wrote n v zs).began).now.getD 1 dC).2 = zs := rfl
theorem wrote_sync (n : Nat) (v : Value) (zs : List Int) : (((wrote n v zs).began.began.sync).now.getD 1 dC).2 = zs := rfl
theorem wrote_crash (n : Nat) (v : Value) (zs : List Int) : (((wrote n v zs).began.began.sync.crash []).now.getD 1 dC).2 = zs := rfl

theorem lies_owned {w : World} {base g n c : Nat} {e : TypeId} {xs : List Value} (h : w.ownsRow base e 1 (.slice (some ⟨g, 0, none⟩) n c) n xs) : Lies (fun k => k = g) w (.slice (some ⟨g, 0, none⟩) n c) xs :=
  Lies.of_owns h (fun k hk => by simpa [Value.ownBlock] using hk.symm)

theorem row_ints {w : World} {g : Nat} {ys : List Int} {i : Nat} (h : w.heap[g]? = some (.cells (ys.map (Value.int .u8)).toArray 5 (0, 0))) (hi : i < ys.length) :
    w.cell? ⟨g, i, none⟩ = some (.int .u8 (ys.getD i 0)) ∧ w.frozen? ⟨g, i, none⟩ = false :=
  row_cell h i _ (by rw [List.getElem?_map, List.getD_eq_getElem?_getD, List.getElem?_eq_getElem hi]; rfl)

theorem row_ints_set {w : World} {g : Nat} {ys : List Int} (h : w.heap[g]? = some (.cells (ys.map (Value.int .u8)).toArray 5 (0, 0))) (i : Nat) (z : Int) :
    (w.setCell ⟨g, i, none⟩ (.int .u8 z)).heap[g]? = some (.cells ((ys.set i z).map (Value.int .u8)).toArray 5 (0, 0)) := by
  rw [row_set h i (.int .u8 z), List.map_set]

set_option maxHeartbeats 4000000 in
theorem late (w : World) (a0 : Option Addr) (n cap0 : Nat) (zs : List Int) (A0 : Lies (Old w) w (.slice a0 n cap0) (zs.map (Value.int .u8))) (h1 : 1 ≤ n) (h2 : n ≤ 1000) :
    Calls Try.prog 6 #[.slice a0 n cap0] w fun e w' => e = .returned (.bool true) ∧ Below w.heap.size w w' := by
  have i1 : (1 : Int) ≤ n := by omega
  have i2 : (n : Int) ≤ 1000 := by omega
  have hz0 : zs.length = n := by
    obtain ⟨a, c, hv, _⟩ := A0.slice
    simp at hv
    omega
  have HZL : Hid (zs.length = n) := hz0
  have HA : Hid (∀ w', Chg no w w' → Lies (Old w) w' (.slice a0 n cap0) (zs.map (Value.int .u8))) := fun w' c => A0.chg c (fun _ _ h => h)
  clear hz0 A0
  go_enter Try.func6, Try.ntmps6
  go_wp2_with fail
  refine (first_any _).mono ?_
  rintro e w1 ⟨rfl, k1⟩
  go_wp2_with fail
  refine (new_in 2 n (by omega) (by omega) (by omega) (by omega)).mono ?_
  rintro e w2 ⟨p, rfl, s2, k2⟩
  have K2 : Chg no w w2 := k1.then k2
  have z1 := k1.size
  have z2 := k2.size
  go_wp2_with fail
  refine (copyBytes_any _ zs _ w2 (HA.out _ K2) (by have := HZL.out; omega)).mono ?_
  rintro e w3 ⟨v3, rfl, o3, k3⟩
  rw [HZL.out] at o3
  have z3 := k3.size
  obtain ⟨gi, ci, hv3, hgi⟩ : ∃ gi ci, v3 = .slice (some ⟨gi, 0, none⟩) n ci ∧ w2.heap.size ≤ gi := by
    rcases o3.2 with ⟨_, h0⟩ | ⟨g, cap, cur, rfl, hb, _⟩
    · omega
    · exact ⟨g, cap, rfl, hb⟩
  subst hv3
  have hgl := (o3.lt gi rfl).2
  have s3 := s2.same k3
  have HW := write_ok (J := fun k => k = gi) s3 (by show 0 ≤ 100000000; omega) (by show 0 ≤ 100000000000; omega) rfl 1 (by show 1 < 2; omega) (.slice (some ⟨gi, 0, none⟩) n ci) zs HZL.out (lies_owned o3) (fun k hk => by subst hk; omega)
  go_wp2_with fail
  refine HW.mono ?_
  rintro e w4 ⟨v4, rfl, s4, k4⟩
  have z4 := k4.size
  change St w4 p _ (wrote n v4 zs) at s4
  have K4 : Chg no w w4 := (K2.then k3).trans k4 (fun j hj => .inr (by omega))
  have o4 := k4.owns o3 (fun k hk => by simp [Value.ownBlock] at hk; subst hk; omega)
  have HF : Hid (∀ j, Wid (fun k => w1.heap.size ≤ k ∧ k < w2.heap.size) w3 w4 j → w.heap.size ≤ j ∧ j ≠ gi ∧ j < w4.heap.size) := fun j hj => by rcases hj with hj | hj <;> omega
  obtain ⟨F, hFd⟩ : ∃ F, F = Wid (fun k => w1.heap.size ≤ k ∧ k < w2.heap.size) w3 w4 := ⟨_, rfl⟩
  rw [← hFd] at s4 HF
  clear HW s3 s2 k1 k2 k3 k4 K2 o3 hFd
  have S5 : ∃ ys : List Int, w4.ownsRow w2.heap.size 5 1 (.slice (some ⟨gi, 0, none⟩) n ci) n (ys.map (Value.int .u8)) := ⟨zs, o4⟩
  clear o4
  go_wp2_with fail
  go_loopw [6] (fun i wr => ∃ (k : Nat) (ys : List Int), k ≤ n ∧ i = .int .i64 (k : Int) ∧ wr.ownsRow w2.heap.size 5 1 (.slice (some ⟨gi, 0, none⟩) n ci) n (ys.map (Value.int .u8)) ∧ Chg (fun j => j = gi) w4 wr) (fun i _ => n - (intOf i).toNat)
  case atStart =>
    obtain ⟨ys, o⟩ := S5
    exact ⟨0, ys, by omega, rfl, o, Chg.refl _ _⟩
  case round =>
    clear S5
    obtain ⟨k, ys, hk, rfl, o, C⟩ := hrel
    have hyl : ys.length = n := by have := o.1; simpa using this
    by_cases hkn : k < n
    · have hki : (k : Int) < n := by omega
      have q1 : wr.cell? ⟨gi, k, none⟩ = some (.int .u8 (ys.getD k 0)) := by
        rw [o.cellAt k (by omega), List.getElem?_map, List.getD_eq_getElem?_getD, List.getElem?_eq_getElem (by omega)]
        rfl
      have q2 := o.frozenAt k
      have hst := fun z : Int => (o.stored k (.int .u8 z)).1
      clear hyl
      go_wp2
      go_roundw
      case rel => exact ⟨k + 1, ys.set k _, by omega, by go_num, by rw [List.map_set]; exact hst _, C.setCell _ _ (.inl rfl)⟩
      case measure => simp [intOf]; omega
    · obtain rfl : k = n := by omega
      have hki : (k : Int) ≤ (k : Int) := by omega
      have s5 := s4.chg C (fun j hj e => (HF.out j hj).2.1 e)
      have K5 : Chg no w wr := K4.trans C (fun j hj => .inr (by omega))
      have hFw : ∀ j, F j → w.heap.size ≤ j := fun j hj => (HF.out j hj).1
      have hFl := s5.lt
      have zn : zs.length = k := HZL.out
      have R6 := read_in s5 (by show 1 ≤ 100000000; omega) (by show 0 ≤ 100000000000; omega) rfl 1 (by show 1 < 2; omega)
      rw [wrote_now] at R6
      change Calls _ _ _ _ (fun e w' => ∃ g, e = .returned (.tuple #[.slice (some ⟨g, 0, none⟩) k k, .int .i64 0]) ∧ _) at R6
      have HFl : Hid (∀ j, F j → j < wr.heap.size) := hFl
      have HFw : Hid (∀ j, F j → w.heap.size ≤ j) := hFw
      have ZN : Hid (zs.length = k) := zn
      clear s4 s5 o C K4 hyl hFw hFl zn
      go_wp2_with fail
      refine R6.mono ?_
      rintro e w6 ⟨gx, rfl, hgx, bx, s6, k6⟩
      have K6 : Chg no w w6 := K5.trans k6 (fun j hj => .inr (HFw.out j hj))
      have z6 := k6.size
      have P7 := peek_in s6 1 (by show 1 < 2; omega)
      rw [wrote_began] at P7
      change Calls _ _ _ _ (fun e w' => e = .returned (.slice (some ⟨w6.heap.size, 0, none⟩) k k) ∧ _) at P7
      go_wp2_with fail
      refine P7.mono ?_
      rintro e w7 ⟨rfl, by7, k7⟩
      have K7 : Chg no w w7 := K6.then k7
      have z7 := k7.size
      have bx7 := k7.heap bx id
      have hxl := lt_of_block bx
      have s7 := s6.same k7
      have zw := K5.size
      have Lx : Lies (fun j => j = gx) w7 (.slice (some ⟨gx, 0, none⟩) k k) (zs.map (Value.int .u8)) := by
        have := lies_block bx7 k
        rwa [List.length_map, ZN.out] at this
      have Ly : Lies (fun j => j = w6.heap.size) w7 (.slice (some ⟨w6.heap.size, 0, none⟩) k k) (zs.map (Value.int .u8)) := by
        have := lies_block by7 k
        rwa [List.length_map, ZN.out] at this
      obtain ⟨gy, hgy⟩ : ∃ gy, gy = w6.heap.size := ⟨_, rfl⟩
      rw [← hgy] at by7 Ly ⊢
      have B1 := bytes_same Lx (HA.out _ K7)
      have B2 := bytes_same Ly (HA.out _ K7)
      have hyl := lt_of_block by7
      have hxy : ¬ gx = gy := by omega
      have hyx : ¬ gy = gx := by omega
      have HFx : Hid (∀ j, F j → j < gx ∧ j < gy) := fun j hj => by have := HFl.out j hj; omega
      have hwx : w.heap.size ≤ gx := by omega
      have hwy : w.heap.size ≤ gy := by omega
      clear R6 P7 Lx Ly bx K5 K6 hgy
      go_wp2_with fail
      refine B1.mono ?_
      rintro e w8 ⟨rfl, rfl⟩
      go_wp2_with fail
      refine B2.mono ?_
      rintro e w9 ⟨rfl, rfl⟩
      have S9 : ∃ xs ys : List Int, xs.length = k ∧ ys.length = k ∧ w9.heap[gx]? = some (.cells (xs.map (Value.int .u8)).toArray 5 (0, 0)) ∧ w9.heap[gy]? = some (.cells (ys.map (Value.int .u8)).toArray 5 (0, 0)) := ⟨zs, zs, ZN.out, ZN.out, bx7, by7⟩
      clear B1 B2 bx7 by7
      go_wp2_with fail
      go_loopw [10] (fun i wt => ∃ (j : Nat) (xs ys : List Int), j ≤ k ∧ i = .int .i64 (j : Int) ∧ xs.length = k ∧ ys.length = k ∧ wt.heap[gx]? = some (.cells (xs.map (Value.int .u8)).toArray 5 (0, 0)) ∧ wt.heap[gy]? = some (.cells (ys.map (Value.int .u8)).toArray 5 (0, 0)) ∧ Chg (fun j => j = gx ∨ j = gy) w9 wt) (fun i _ => k - (intOf i).toNat)
      case atStart =>
        obtain ⟨xs, ys, l1, l2, b1, b2⟩ := S9
        exact ⟨0, xs, ys, by omega, rfl, l1, l2, b1, b2, Chg.refl _ _⟩
      case round =>
        clear S9
        obtain ⟨j, xs, ys, hj, rfl, l1, l2, b1, b2, C⟩ := hrel
        by_cases hjn : j < k
        · have hji : (j : Int) < k := by omega
          obtain ⟨q1, q2⟩ := row_ints b1 (show j < xs.length by omega)
          obtain ⟨q3, q4⟩ := row_ints b2 (show j < ys.length by omega)
          have HR : Hid (∀ z1 z2 : Int, ∃ xs ys : List Int, xs.length = k ∧ ys.length = k ∧ ((wr.setCell ⟨gx, j, none⟩ (.int .u8 z1)).setCell ⟨gy, j, none⟩ (.int .u8 z2)).heap[gx]? = some (.cells (xs.map (Value.int .u8)).toArray 5 (0, 0)) ∧
              ((wr.setCell ⟨gx, j, none⟩ (.int .u8 z1)).setCell ⟨gy, j, none⟩ (.int .u8 z2)).heap[gy]? = some (.cells (ys.map (Value.int .u8)).toArray 5 (0, 0)) ∧ Chg (fun j => j = gx ∨ j = gy) w9 ((wr.setCell ⟨gx, j, none⟩ (.int .u8 z1)).setCell ⟨gy, j, none⟩ (.int .u8 z2))) := by
            intro z1 z2
            have e1 := row_ints_set b1 j z1
            have e2 := row_ints_set (w := wr.setCell ⟨gx, j, none⟩ (.int .u8 z1)) (by rw [Below.heap_setCell _ _ _ _ (by simpa using hyx)]; exact b2) j z2
            refine ⟨xs.set j z1, ys.set j z2, by simpa using l1, by simpa using l2, ?_, e2, (C.setCell _ _ (.inl (.inl rfl))).setCell _ _ (.inl (.inr rfl))⟩
            rw [Below.heap_setCell _ _ _ _ (by simpa using hxy)]
            exact e1
          clear b1 b2 l1 l2 C
          go_wp2_with fail
          go_region
          all_goals go_wp2
          all_goals go_roundw
          case rel =>
            obtain ⟨xs', ys', m1, m2, m3, m4, m5⟩ := HR.out _ _
            exact ⟨j + 1, xs', ys', by omega, by go_num, m1, m2, m3, m4, m5.drew⟩
          case measure => simp [intOf]; omega
        · obtain rfl : j = k := by omega
          have hji : (j : Int) ≤ (j : Int) := by omega
          have s9 := s7.chg C (fun i hi e => by have := HFx.out i hi; omega)
          have K9 : Chg no w wr := K7.trans C (fun i hi => .inr (by omega))
          have HK : Hid (∀ a b : World, Chg no w a → Chg F a b → Chg no w b) := fun a b h1 h2 => h1.trans h2 (fun i hi => .inr (HFw.out i hi))
          have HL : Hid (∀ (a b : World), Chg no w b → b.heap[a.heap.size]? = some (.cells (zs.map (Value.int .u8)).toArray 5 (0, 0)) → Calls Try.prog 14 #[.slice (some ⟨a.heap.size, 0, none⟩) j j, .slice a0 j cap0] b fun e w' => e = .returned (.bool true) ∧ w' = b) := by
            intro a b hb hg
            have := lies_block hg j
            rw [List.length_map, ZN.out] at this
            exact bytes_same this (HA.out _ hb)
          clear s7 C K7 b1 b2
          go_wp2_with fail
          refine (first_any _).mono ?_
          rintro e wA ⟨rfl, kA⟩
          have sA := s9.same kA
          have KA := K9.then kA
          have PA := peek_in sA 1 (by show 1 < 2; omega)
          rw [wrote_began] at PA
          change Calls _ _ _ _ (fun e w' => e = .returned (.slice (some ⟨wA.heap.size, 0, none⟩) j j) ∧ _) at PA
          go_wp2_with fail
          refine PA.mono ?_
          rintro e wB ⟨rfl, gB, kB⟩
          have sB := sA.same kB
          have KB := KA.then kB
          go_wp2_with fail
          refine (HL.out wA wB KB gB).mono ?_
          rintro e wC ⟨rfl, rfl⟩
          have YC := sync_ok sB (by show 2 ≤ 100000000; omega) (by show 0 ≤ 100000000000; omega) rfl
          go_wp2_with fail
          refine YC.mono ?_
          rintro e wD ⟨rfl, sD, kD⟩
          have KD := HK.out _ _ KB kD
          have PD := peek_in sD 1 (by show 1 < 2; omega)
          rw [wrote_sync] at PD
          change Calls _ _ _ _ (fun e w' => e = .returned (.slice (some ⟨wD.heap.size, 0, none⟩) j j) ∧ _) at PD
          go_wp2_with fail
          refine PD.mono ?_
          rintro e wE ⟨rfl, gE, kE⟩
          have sE := sD.same kE
          have KE := KD.then kE
          go_wp2_with fail
          refine (HL.out wD wE KE gE).mono ?_
          rintro e wG ⟨rfl, rfl⟩
          have CR := crash_any (J := no) sE rfl (by show 3 ≤ 1000000000; omega) (.slice none 0 0) [] (.inl ⟨rfl, rfl⟩) (by simp) (fun _ h => h.elim)
          go_wp2_with fail
          refine CR.mono ?_
          rintro e wH ⟨rfl, sH, kH⟩
          have KH := HK.out _ _ KE kH
          have PH := peek_in sH 1 (by show 1 < 2; omega)
          rw [wrote_crash] at PH
          change Calls _ _ _ _ (fun e w' => e = .returned (.slice (some ⟨wH.heap.size, 0, none⟩) j j) ∧ _) at PH
          go_wp2_with fail
          refine PH.mono ?_
          rintro e wI ⟨rfl, gI, kI⟩
          have KI := KH.then kI
          go_wp2_with fail
          refine (HL.out wH wI KI gI).mono ?_
          rintro e wJ ⟨rfl, rfl⟩
          go_wp2
          go_ret
          exact ⟨rfl, KI.below⟩

theorem walk (w : World) (a0 : Option Addr) (len0 cap0 : Nat) (zs : List Int) (A0 : Lies (Old w) w (.slice a0 len0 cap0) (zs.map (Value.int .u8))) (c0 : len0 ≤ cap0) :
    Calls Try.prog 6 #[.slice a0 len0 cap0] w fun e w' => e = .returned (.bool true) ∧ Below w.heap.size w w' := by
  by_cases hh : len0 < 1 ∨ 1000 < len0
  · exact early w a0 len0 cap0 hh
  · exact late w a0 len0 cap0 zs A0 (by omega) (by omega)

theorem own : ownKnob Try.prog.godebug = none := by kernel_rfl
theorem laidOut : laidOutB Try.prog = true := by kernel_rfl

set_option maxRecDepth 100000 in
theorem lifted (os : Os) (started : os.Started) (H : Type) (enc : TypeId × Value → H) :
    ReturnsInHanded {} Try.checked os 6 .any (Rows.cellsOwnSpec.pre6 enc Try.prog Try.f6 Rows.cellsOwnRow.domain false) (Rows.cellsOwnSpec.post enc Try.prog Try.f6 false true false false) := by
  refine returnsInHanded_of_change (C := Try.checked) own started (by kernel_rfl) Try.func6
    (ChangeSpec.witness6 (enc := enc) (C := Try.checked) false ⟨#[], #[.slice none 0 0], []⟩ 8 (by kernel_rfl) (by kernel_rfl) (by kernel_rfl) (by kernel_rfl)) ?_
  intro W base args ds gs before hval0 hW hcnd _
  have hval : ∀ (j : Nat) t v, Try.f6.params[j]? = some t → args[j]? = some v → Value.okWide Try.prog W .any base t v := hval0
  have hW' := hW
  obtain ⟨p, q, hA0, hV, rfl, hfz, hnd⟩ := hW
  have hA : DataW.TrodAll enc Try.prog W 0 (fun _ => true) true Try.f6.params.toList args.toList ds p := hA0
  rw [Try.params6] at hA hval
  obtain ⟨v0, vs0, d0, ds0, p0, q0, hargs, rfl, rfl, h0, r0⟩ := trodAll_cons hA
  obtain ⟨rfl, rfl, rfl⟩ := trodAll_nil r0
  obtain rfl : args = #[v0] := by cases args; simp_all
  obtain ⟨rfl, rfl⟩ := trodVars_none hV
  obtain ⟨a0, len0, cap0, rfl⟩ := okWide_slice Try.underlying32 (hval 0 32 v0 rfl rfl)
  have k0 := h0
  have lt0 : ∀ x ∈ p0, x.block < W.heap.size := by obtain ⟨m, hm⟩ := k0; exact DataW.trod_lt m _ _ _ hm
  have c0 : len0 ≤ cap0 := by obtain ⟨m, hm⟩ := k0; exact (open_cap Try.underlying32 hm).1
  obtain ⟨z0, w0⟩ := (by obtain ⟨fuel, hf⟩ := h0; exact open_bytes hf : ∃ z : List Int, Lies (Old W) W (.slice a0 len0 cap0) (z.map (Value.int .u8)))
  clear hA0 hval0
  refine (walk W a0 len0 cap0 z0 w0 c0).mono fun e W' ⟨he, bel⟩ => ?_
  subst he
  exact ⟨_, rfl, _, _, _, [], _, [], hW', trodAll_mk1 (shut_bool Try.underlying4 _), (trodAll_cons_mk (Below.trod laidOut (by kernel_rfl) (of_decide_eq_true (by kernel_rfl)) k0 bel lt0) trodAll_mk0), rfl, bel.frame _, fun h => by cases h⟩

theorem over : Rows.cellsOwnRow.holds Try.pinned (OpenSpec.ofChange Rows.cellsOwnSpec) :=
  OpenClaim.holds_of_wide 6 Try.f6 rfl rfl rfl rfl rfl rfl rfl ⟨rfl, rfl, rfl, rfl, rfl⟩ rfl rfl rfl rfl rfl (by kernel_rfl) Try.func6 (by kernel_rfl)
    (of_decide_eq_true (by kernel_rfl)) (by unfold Func.isWrapper; first | (rw [if_pos (by decide +kernel)]; kernel_rfl) | (rw [if_neg (by decide +kernel)]; exact ⟨rfl, rfl⟩))
    (fun os started H enc _ => lifted os started H enc)

theorem proved : Rows.CellsOwnSaid := over
end Go.Proofs.Ytjmdjadnllakpaa.cellsOwn
namespace Go.Proofs.Ytjmdjadnllakpaa
theorem cellsOwn_holds : Rows.CellsOwnSaid := cellsOwn.proved
#print axioms cellsOwn_holds
end Go.Proofs.Ytjmdjadnllakpaa
