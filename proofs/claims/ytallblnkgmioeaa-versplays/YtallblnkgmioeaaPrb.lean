/- The document's ParseBits, walked. -/
import Derived.Test.YtallblnkgmioeaaPrs
namespace Go.Proofs.Ytallblnkgmioeaa.st
open Go.ChangeShapes Go.WideShapes Go.ChangeAt Go.RowKit Go.Proofs.Ytallblnkgmioeaa.hp Go.Proofs.Ytallblnkgmioeaa.bt
set_option linter.unusedVariables false
set_option linter.unusedSimpArgs false

theorem lies_at8 {J : Nat → Prop} {w : World} {a : Option Addr} {l c : Nat} {zs : List Int} (h : Lies J w (.slice a l c) (zs.map (Value.int .u8))) (k : Nat) (hk : k < zs.length) : ∃ y, a = some y ∧ w.cell? (y.add k) = some (.int .u8 (zs.getD k 0)) := by
  obtain ⟨a', c', hv, hc⟩ := h.slice
  cases hv
  obtain ⟨y, hy, _, hy2⟩ := hc k (.int .u8 (zs.getD k 0)) (by rw [List.getElem?_map, List.getD_eq_getElem?_getD, List.getElem?_eq_getElem hk]; rfl)
  exact ⟨y, hy, hy2⟩

theorem New.empty {w w' : World} (k : Chg no w w') : New w [] (.slice none 0 0) w' := ⟨World.ownsRow_nil _ _ _ _, k⟩

set_option maxRecDepth 100000 in
set_option maxHeartbeats 4000000 in
theorem rparse_any {J : Nat → Prop} (w : World) (n : Int) (v : Value) (b : List Int) (hv : Lies J w v (b.map (Value.int .u8))) (hb : Bytes b) (hl : b.length ≤ 100000) :
    Calls Try.prog 21 #[.int .i64 n, v] w fun e w' => ∃ v', e = .returned (.tuple #[v', .int .i64 (parseI n b).2]) ∧ New w (parseI n b).1 v' w' := by
  obtain ⟨i0, hi, hz0, hz1, hz2⟩ := info_parts info3
  obtain ⟨a, c, rfl, _⟩ := hv.slice
  simp only [List.length_map] at hv ⊢
  have HM := rmayBits_any w n
  have HV : Hid (∀ W, Chg no w W → Lies J W (.slice a b.length c) (b.map (Value.int .u8))) := fun W k => hv.chg k (fun _ _ h => h)
  obtain ⟨L, hL⟩ : ∃ L, b.length = L := ⟨_, rfl⟩
  have HL : Hid (b.length = L) := hL
  obtain ⟨ans, hans⟩ : ∃ r, parseI n b = r := ⟨_, rfl⟩
  have HA : Hid (parseI n b = ans) := hans
  have HB : Hid (Bytes b) := hb
  simp only [hL, hans] at HV hl ⊢
  clear hv hans hL hb
  cases hm : mayN n
  · have e : ans = ([], 1) := by
      rw [← HA.out]
      unfold parseI
      rw [if_pos hm]
    subst e
    rw [hm] at HM
    clear HA hm
    go_enter Try.func21, Try.ntmps21
    go_wp2_with fail
    refine HM.mono ?_
    rintro e w1 ⟨rfl, rfl⟩
    go_wp2
    go_ret2
    exact ⟨_, rfl, New.empty (Chg.refl no _)⟩
  rw [hm] at HM
  have hm' : 1 ≤ n ∧ n ≤ 127 := of_decide_eq_true hm
  obtain ⟨m, rfl⟩ : ∃ m : Nat, n = m := ⟨n.toNat, by omega⟩
  have hm1 : 1 ≤ m := by omega
  have hm2 : m ≤ 127 := by omega
  have hmi : (m : Int) ≤ 127 := by omega
  obtain ⟨M, hM⟩ : ∃ M, (m + 7) / 8 = M := ⟨_, rfl⟩
  have hq : ((m : Int) + 7).tdiv 8 = (M : Int) := by
    have := tdiv_nat (m + 7) 8
    rw [hM] at this
    exact this
  have HMM : Hid ((m + 7) / 8 = M) := hM
  have hMi : (M : Int) ≤ 100000 := by omega
  have HA2 : Hid ((if L ≠ M then ([], 2) else if bytesOf (bitsOf m b) = b then (bitsOf m b, 0) else ([], 2)) = ans) := by
    have e := HA.out
    unfold parseI at e
    rw [if_neg (by rw [hm]; decide), Int.toNat_natCast, HL.out, hM] at e
    exact e
  clear HA hm hm' hM
  by_cases hLM : L = M
  rotate_left
  · have e : ans = ([], 2) := by
      rw [← HA2.out, if_pos hLM]
    subst e
    have hne : ((L : Int) != (M : Int)) = true := by simp; omega
    have hne2 : ¬ (L : Int) = (M : Int) := by omega
    clear HA2 hLM
    go_enter Try.func21, Try.ntmps21
    go_wp2_with fail
    refine HM.mono ?_
    rintro e w1 ⟨rfl, rfl⟩
    go_wp2
    go_ret2
    exact ⟨_, rfl, New.empty (Chg.refl no _)⟩
  subst hLM
  have HA3 : Hid ((if bytesOf (bitsOf m b) = b then (bitsOf m b, 0) else ([], 2)) = ans) := by
    have e := HA2.out
    rw [if_neg (by simp)] at e
    exact e
  clear HA2
  go_enter Try.func21, Try.ntmps21
  go_wp2_with fail
  refine HM.mono ?_
  rintro e w1 ⟨rfl, hw1⟩
  subst hw1
  clear HM
  go_wp2_with (at_make; refine wpList_make_full _ rfl _ _ 24 rfl w1.heap.size 3 i0 (.int .i64 0) 1 Try.underlying24 hi hz0 hz1 .i64 .i64 m m m rfl rfl rfl rfl ?c1 ?c2 ?c3 ?_)
  case c1 => rw [hz2]; omega
  case c2 => unfold maxLen; omega
  case c3 => omega
  intro w2 hown hg
  have HN0 : Hid (New w1 (bitsTo m b 0) (.slice (some ⟨w1.heap.size, 0, none⟩) m m) w2) := by
    refine ⟨?_, (Chg.refl no w1).grown hg (by simp)⟩
    rw [bitsTo_zero, List.length_replicate, List.map_replicate]
    rw [toList_madeCells_one] at hown
    exact hown
  obtain ⟨g, hgg⟩ : ∃ g, w1.heap.size = g := ⟨_, rfl⟩
  rw [hgg] at HN0 ⊢
  clear hown hg
  go_wp2_with fail
  go_loopw [7] (fun iv wr => ∃ i : Nat, i ≤ m ∧ iv = .int .i64 (i : Int) ∧ New w1 (bitsTo m b i) (.slice (some ⟨g, 0, none⟩) m m) wr) (fun iv _ => m - (intOf iv).toNat)
  case atStart => exact ⟨0, by omega, rfl, HN0.out⟩
  case round =>
    clear HN0
    obtain ⟨i, hi', rfl, hN⟩ := hrel
    have HN : Hid (New w1 (bitsTo m b i) (.slice (some ⟨g, 0, none⟩) m m) wr) := hN
    by_cases him : i < m
    · have hii : (i : Int) < m := by omega
      obtain ⟨k, hk⟩ : ∃ k, i / 8 = k := ⟨_, rfl⟩
      obtain ⟨t, ht⟩ : ∃ t, i % 8 = t := ⟨_, rfl⟩
      have hkL : k < L := by have := HMM.out; omega
      have hkLi : (k : Int) < L := by omega
      obtain ⟨y, rfl, e0⟩ := lies_at8 (HV.out wr hN.2) k (by rw [HL.out]; exact hkL)
      have hbb := HB.out _ (getD_mem (x := b) (i := k) (by rw [HL.out]; exact hkL))
      have hnx := bitsTo_next m b i him
      rw [hk, ht] at hnx
      obtain ⟨B, hBB⟩ : ∃ B : Nat, b.getD k 0 = B := ⟨(b.getD k 0).toNat, by omega⟩
      rw [hBB] at e0 hbb hnx
      have ht8 : t < 8 := by omega
      have hti : (t : Int) ≤ 7 := by omega
      have ht0 : ¬ (t : Int) < 0 := by omega
      have hq2 : (i : Int).tdiv 8 = (k : Int) := by
        have := tdiv_nat i 8
        rw [hk] at this
        exact this
      have hr : (i : Int).tmod 8 = (t : Int) := by
        rw [← ht]
        rfl
      have o := hN.1
      rw [bitsTo_len] at o
      obtain ⟨u, hu⟩ : ∃ u, (bitsTo m b i)[i]? = some u := ⟨_, List.getElem?_eq_getElem (by rw [bitsTo_len]; exact him)⟩
      obtain ⟨g', e, _, o2, o3⟩ := owns_at (k := i) (u := .int .i64 u) o (by rw [List.getElem?_map, hu]; rfl)
      cases e
      have HNX : Hid (bitsTo m b (i + 1) = (bitsTo m b i).set i ((B : Int) / 2 ^ t % 2)) := hnx
      have hBi : (B : Int) ≤ 255 := hbb.2
      clear hnx o hu hN hBB hbb
      have HOR : Hid (bits .and .i64 ((B : Int) / 2 ^ t) 1 = (B : Int) / 2 ^ t % 2) := by
        have h2 : ((2 : Int) ^ t) = ((2 ^ t : Nat) : Int) := by simp
        have h3 : (B : Int) / ((2 ^ t : Nat) : Int) = ((B / 2 ^ t : Nat) : Int) := rfl
        have h4 : B / 2 ^ t ≤ B := Nat.div_le_self _ _
        show _ = _
        rw [h2, h3, and_one _ (by omega)]
        rfl
      go_wp2
      go_roundw
      case rel => exact ⟨i + 1, by omega, by go_num, by rw [HOR.out, HNX.out]; exact HN.out.set _⟩
      case measure => simp [intOf]; omega
    · obtain rfl : i = m := by omega
      have hii : ¬ ((i : Int) < i) := by omega
      have HBB := bitBytes_any wr (.slice (some ⟨g, 0, none⟩) i i) (bitsOf i b) (by
        have := hN.lies
        exact this) (bitsTo_bin _ _ _) (by unfold bitsOf; rw [bitsTo_len]; omega)
      have HCW : Hid (Chg no w1 wr) := hN.2
      clear hN
      go_wp2_with fail
      refine HBB.mono ?_
      rintro e w3 ⟨v3, rfl, N3⟩
      have HN3 : Hid (New w1 (bitsOf i b) (.slice (some ⟨g, 0, none⟩) i i) w3) := HN.out.chg N3.2
      obtain ⟨a3, l3, c3, rfl⟩ : ∃ a l c, v3 = .slice a l c := by
        obtain ⟨a, c, e⟩ := N3.shape
        exact ⟨_, _, _, e⟩
      have HEQ := bytes_any (N3.lies) (HV.out w3 (HCW.out.then N3.2)) (bytesOf_bytes _ (bitsTo_bin _ _ _)) HB.out
      clear HBB N3
      by_cases hsame : bytesOf (bitsOf i b) = b
      · have e : ans = (bitsOf i b, 0) := by rw [← HA3.out, if_pos hsame]
        subst e
        rw [decide_eq_true hsame] at HEQ
        clear HA3
        go_wp2_with fail
        refine HEQ.mono ?_
        rintro e w4 ⟨rfl, rfl⟩
        go_wp2
        go_ret2
        exact ⟨_, rfl, HN3.out⟩
      · have e : ans = ([], 2) := by rw [← HA3.out, if_neg hsame]
        subst e
        rw [decide_eq_false hsame] at HEQ
        clear HA3
        go_wp2_with fail
        refine HEQ.mono ?_
        rintro e w4 ⟨rfl, rfl⟩
        go_wp2
        go_ret2
        exact ⟨_, rfl, New.empty HN3.out.2⟩

end Go.Proofs.Ytallblnkgmioeaa.st
