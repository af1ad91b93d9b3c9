/- Contract of Apply. -/
import Derived.Test.YtocbmjkbbbmncaaEqs
namespace Go.Proofs.Ytocbmjkbbbmncaa.st
open Go.ChangeShapes Go.WideShapes Go.ChangeAt Go.RowKit Go.Proofs.Ytocbmjkbbbmncaa.hp
set_option linter.unusedVariables false

/-- May all be Set? -/
def mayAll (n : Nat) (cs : List (Int × Int × Int)) : Bool := cs.all fun c => may n c.1 c.2.1 c.2.2
/-- All set, in order. -/
def putAll (ps : List (Int × Int)) (cs : List (Int × Int × Int)) : List (Int × Int) := cs.foldl (fun ps c => ps.set c.1.toNat c.2) ps
/-- The places behind an Apply. -/
def applyP (ps : List (Int × Int)) (cs : List (Int × Int × Int)) : List (Int × Int) := if mayAll ps.length cs = true then putAll ps cs else ps

theorem putAll_length (ps : List (Int × Int)) (cs : List (Int × Int × Int)) : (putAll ps cs).length = ps.length := by
  unfold putAll
  induction cs generalizing ps with
  | nil => rfl
  | cons c cs ih => rw [List.foldl_cons, ih, List.length_set]

theorem applyP_length (ps : List (Int × Int)) (cs : List (Int × Int × Int)) : (applyP ps cs).length = ps.length := by
  unfold applyP
  split
  · exact putAll_length ps cs
  · rfl

theorem putAll_next (ps : List (Int × Int)) (cs : List (Int × Int × Int)) (k : Nat) (d l t : Int) (h : cs[k]? = some (d, l, t)) : putAll ps (cs.take (k + 1)) = (putAll ps (cs.take k)).set d.toNat (l, t) := by
  rw [take_next cs k _ h]
  unfold putAll
  rw [List.foldl_append]
  rfl

theorem mayAll_next (n : Nat) (cs : List (Int × Int × Int)) (k : Nat) (d l t : Int) (h : cs[k]? = some (d, l, t)) : mayAll n (cs.take (k + 1)) = (mayAll n (cs.take k) && may n d l t) := by
  rw [take_next cs k _ h]
  unfold mayAll
  rw [List.all_append]
  simp

theorem mayAll_at {n : Nat} {cs : List (Int × Int × Int)} (h : mayAll n cs = true) {k : Nat} {d l t : Int} (hk : cs[k]? = some (d, l, t)) : may n d l t = true := by
  have := List.all_eq_true.1 h (d, l, t) (List.mem_of_getElem? hk)
  exact this

theorem mayAll_not {n : Nat} {cs : List (Int × Int × Int)} {k : Nat} {d l t : Int} (hk : cs[k]? = some (d, l, t)) (h : may n d l t = false) : mayAll n cs = false := by
  cases hm : mayAll n cs
  · rfl
  · rw [mayAll_at hm hk] at h
    cases h

theorem may_nat {n : Nat} {d l t : Int} (h : may n d l t = true) : ∃ k : Nat, d = k ∧ k < n := by
  unfold may at h
  simp at h
  obtain ⟨k, rfl⟩ := Int.eq_ofNat_of_zero_le h.1
  exact ⟨k, rfl, by omega⟩

set_option maxHeartbeats 2000000 in
theorem apply_any {J : Nat → Prop} {p : Nat} {pv cv : Value} {ps : List (Int × Int)} {ch : List Bool} {w : World} (h : Mp 63 33 p pv cv ps ch w) (v : Value) (cs : List (Int × Int × Int)) (hv : Lie J w v cs.length (cs.flatMap f3)) (hJ : ∀ k, J k → ¬ Ft p pv cv k) (hl : cs.length ≤ 100000) :
    Calls Try.prog 17 #[pt p, v] w fun e w' => e = .returned (.bool (mayAll ps.length cs)) ∧ Mp 63 33 p pv cv (applyP ps cs) ch w' ∧ Chg (Ft p pv cv) w w' := by
  obtain ⟨x, cx, rfl⟩ := hv.slice
  have HV : Hid (∀ W, Chg (Ft p pv cv) w W → ∀ k d l t, cs[k]? = some (d, l, t) → ∃ y, x = some y ∧ W.cell? (y.add (k * 3)) = some (.int .i64 d) ∧ W.cell? ⟨(y.add (k * 3)).block, (y.add (k * 3)).off + 1, none⟩ = some (.int .i64 l) ∧ W.cell? ⟨(y.add (k * 3)).block, (y.add (k * 3)).off + 2, none⟩ = some (.int .i64 t)) := by
    intro W kk k d l t e
    obtain ⟨y, e1, _, e2, e3, e4⟩ := (hv.chg kk hJ).at3 e
    exact ⟨y, e1, e2, e3, e4⟩
  have HM : Hid (Mp 63 33 p pv cv ps ch w) := h
  obtain ⟨r, hr⟩ : ∃ r, mayAll ps.length cs = r := ⟨_, rfl⟩
  have HR : Hid (mayAll ps.length cs = r) := hr
  obtain ⟨Q, hQ⟩ : ∃ Q, applyP ps cs = Q := ⟨_, rfl⟩
  have HQ : Hid (applyP ps cs = Q) := hQ
  rw [hr, hQ]
  clear hQ
  obtain ⟨n, hn⟩ : ∃ n, cs.length = n := ⟨_, rfl⟩
  have HNN : Hid (cs.length = n) := hn
  rw [hn] at hl ⊢
  have hni : (n : Int) ≤ 100000 := by omega
  clear h hv hn hr
  go_enter Try.func17, Try.ntmps17
  go_wp2_with fail
  go_loopw [11] (fun i wr => ∃ k : Nat, k ≤ n ∧ i = .int .i64 (k : Int) ∧ Chg no w wr ∧ mayAll ps.length (cs.take k) = true) (fun i _ => n - (intOf i).toNat)
  case atStart => exact ⟨0, by omega, rfl, Chg.refl no w, rfl⟩
  case round =>
    obtain ⟨k, hk, rfl, hC, hA⟩ := hrel
    have HA : Hid (mayAll ps.length (cs.take k) = true) := hA
    clear hA
    by_cases hkn : k < n
    · have hki : (k : Int) < n := by omega
      have hkl : k < cs.length := by rw [HNN.out]; exact hkn
      obtain ⟨⟨d, l, t⟩, hlt⟩ : ∃ x, cs[k]? = some x := ⟨_, List.getElem?_eq_getElem hkl⟩
      have HLT : Hid (cs[k]? = some (d, l, t)) := hlt
      obtain ⟨y, rfl, e0, e1, e2⟩ := HV.out wr (hC.of_no _) k d l t hlt
      have K1 : Chg no wr (wr.alloc (.cells #[.int .i64 d, .int .i64 l, .int .i64 t] 58)) := (Chg.refl no wr).alloc _
      have HH := maySet_any (Mp.same HM.out (hC.then K1)) d l t
      obtain ⟨b, hb⟩ : ∃ b, may ps.length d l t = b := ⟨_, rfl⟩
      have HB : Hid (may ps.length d l t = b) := hb
      rw [hb] at HH
      have HC : Hid (Chg no w wr) := hC
      have HK1 : Hid _ := K1
      clear hlt hkl hb hC K1
      go_wp2_with fail
      refine HH.mono ?_
      rintro e w2 ⟨rfl, k2⟩
      clear HH
      have HK : Hid (Chg no w w2) := (HC.out.then HK1.out).then k2
      cases b
      · have hr : r = false := by rw [← HR.out]; exact mayAll_not HLT.out HB.out
        subst hr
        have HX : Hid (Q = ps) := by
          show Q = ps
          rw [← HQ.out]
          unfold applyP
          rw [HR.out]
          rfl
        clear k2 e0 e1 e2
        go_wp2
        go_ret
        exact ⟨rfl, by rw [HX.out]; exact Mp.same HM.out HK.out, Chg.of_no HK.out _⟩
      · have HA2 : Hid (mayAll ps.length (cs.take (k + 1)) = true) := by
          show mayAll ps.length (cs.take (k + 1)) = true
          rw [mayAll_next _ _ _ _ _ _ HLT.out, HA.out, HB.out]
          rfl
        clear k2 e0 e1 e2
        go_wp2
        go_roundw
        case rel => exact ⟨k + 1, by omega, by go_num, HK.out, HA2.out⟩
        case measure => simp [intOf]; omega
    · obtain rfl : k = n := by omega
      have hki : (k : Int) ≤ k := by omega
      have hA2 : mayAll ps.length cs = true := by
        have := HA.out
        rw [← HNN.out, List.take_length] at this
        exact this
      have hr : r = true := by rw [← HR.out]; exact hA2
      subst hr
      have HX : Hid (Q = putAll ps cs) := by
        show Q = putAll ps cs
        rw [← HQ.out]
        unfold applyP
        rw [hA2]
        rfl
      have HAll : Hid (mayAll ps.length cs = true) := hA2
      have HM2 : Hid (Mp 63 33 p pv cv ps ch wr) := Mp.same HM.out hC
      have HC : Hid (Chg (Ft p pv cv) w wr) := hC.of_no _
      clear hA2 hC HA
      go_wp2_with fail
      go_loopw [25] (fun i wr => ∃ j : Nat, j ≤ k ∧ i = .int .i64 (j : Int) ∧ Chg (Ft p pv cv) w wr ∧ Mp 63 33 p pv cv (putAll ps (cs.take j)) ch wr) (fun i _ => k - (intOf i).toNat)
      case atStart => exact ⟨0, by omega, rfl, HC.out, HM2.out⟩
      case round =>
        clear HC HM2
        obtain ⟨j, hj, rfl, hC, hMj⟩ := hrel
        by_cases hjn : j < k
        · have hji : (j : Int) < k := by omega
          have hjl : j < cs.length := by rw [HNN.out]; exact hjn
          obtain ⟨⟨d, l, t⟩, hlt⟩ : ∃ x, cs[j]? = some x := ⟨_, List.getElem?_eq_getElem hjl⟩
          obtain ⟨i, rfl, hin⟩ := may_nat (mayAll_at HAll.out hlt)
          have HE : Hid (putAll ps (cs.take (j + 1)) = (putAll ps (cs.take j)).set i (l, t)) := by
            have := putAll_next ps cs j _ l t hlt
            rwa [Int.toNat_natCast] at this
          obtain ⟨y, rfl, e0, e1, e2⟩ := HV.out wr hC j i l t hlt
          obtain ⟨qs, hqs⟩ : ∃ qs, putAll ps (cs.take j) = qs := ⟨_, rfl⟩
          have hql : qs.length = ps.length := by rw [← hqs]; exact putAll_length _ _
          rw [hqs] at hMj HE
          have hi : i < qs.length := by omega
          obtain ⟨c0, _, _, hps⟩ := hMj.cells
          obtain ⟨l0, t0, hq0⟩ : ∃ l0 t0, qs[i]? = some (l0, t0) := ⟨qs[i].1, qs[i].2, List.getElem?_eq_getElem hi⟩
          obtain ⟨g, c, hpv, f0, f1, f2', f3', hgp, hgs⟩ := hMj.at hq0
          have HX2 : Hid (Mp 63 33 p pv cv (qs.set i (l, t)) ch ((((wr.setCell ⟨g, i * 2, none⟩ (.int .i64 l)).setCell ⟨g, i * 2 + 1, none⟩ (.int .i64 t)).alloc (.cells #[.int .i64 i, .int .i64 l, .int .i64 t] 58))).drew) := by
            have h2 := hMj
            rw [hpv] at h2 ⊢
            exact (h2.put i (l, t)).same (((Chg.refl no _).alloc _).drew)
          have HY2 : Hid (Chg (Ft p pv cv) w ((((wr.setCell ⟨g, i * 2, none⟩ (.int .i64 l)).setCell ⟨g, i * 2 + 1, none⟩ (.int .i64 t)).alloc (.cells #[.int .i64 i, .int .i64 l, .int .i64 t] 58))).drew) := by
            have q1 := hC.setCell ⟨g, i * 2, none⟩ (.int .i64 l) (.inl (.inr (.inl (by rw [hpv]; rfl))))
            exact ((q1.setCell ⟨g, i * 2 + 1, none⟩ (.int .i64 t) (.inl (.inr (.inl (by rw [hpv]; rfl))))).alloc _).drew
          rw [hpv] at c0
          have hii : (i : Int) < qs.length := by omega
          obtain ⟨N, hN⟩ : ∃ N, qs.length = N := ⟨_, rfl⟩
          rw [hN] at c0 hii
          clear hq0 hlt hjl hin hqs hql hMj hi hC hN
          go_wp2_with fail
          go_region
          go_wp2
          go_roundw
          case rel => exact ⟨j + 1, by omega, by go_num, HY2.out, by rw [HE.out]; exact HX2.out⟩
          case measure => simp [intOf]; omega
        · obtain rfl : j = k := by omega
          have hji : (j : Int) ≤ j := by omega
          have hZ := hMj
          rw [← HNN.out, List.take_length] at hZ
          have HZ : Hid _ := hZ
          clear hMj hZ
          go_wp2
          go_ret
          exact ⟨rfl, by rw [HX.out]; exact HZ.out, hC⟩

end Go.Proofs.Ytocbmjkbbbmncaa.st
