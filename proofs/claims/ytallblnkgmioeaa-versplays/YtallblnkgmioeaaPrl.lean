/- Parse of the landed code. -/
import Derived.Test.YtallblnkgmioeaaCpy
namespace Go.Proofs.Ytallblnkgmioeaa.st
open Go.ChangeShapes Go.WideShapes Go.ChangeAt Go.RowKit Go.Proofs.Ytallblnkgmioeaa.hp Go.Proofs.Ytallblnkgmioeaa.bt
set_option linter.unusedVariables false
set_option linter.unusedSimpArgs false

theorem ends_any {J : Nat → Prop} (w : World) (n : Nat) (a : Option Addr) (c : Nat) (b : List Int) (h : Lies J w (.slice a b.length c) (b.map (Value.int .u8))) (hb : Bytes b) (hn : 1 ≤ n) (hn2 : n ≤ 127) (hl : b.length = (n + 7) / 8) :
    Calls Try.prog 30 #[.int .i64 n, .slice a b.length c] w fun e w' => e = .returned (.bool (decide (b.getD (b.length - 1) 0 / 2 ^ (n - 8 * (b.length - 1)) = 0))) ∧ w' = w := by
  obtain ⟨y, rfl, hy⟩ := lies_at8 h (b.length - 1) (by omega)
  have hB := hb _ (getD_mem (x := b) (i := b.length - 1) (by omega))
  obtain ⟨L, hL⟩ : ∃ L, b.length = L := ⟨_, rfl⟩
  rw [hL] at hy hB hl ⊢
  obtain ⟨K, hK⟩ : ∃ K, L - 1 = K := ⟨_, rfl⟩
  rw [hK] at hy hB ⊢
  obtain ⟨U, hU⟩ : ∃ U, n - 8 * K = U := ⟨_, rfl⟩
  rw [hU]
  obtain ⟨B, hBB⟩ : ∃ B, b.getD K 0 = B := ⟨_, rfl⟩
  rw [hBB] at hy hB ⊢
  have hKi : (L : Int) - 1 = (K : Int) := by omega
  have hUi : (n : Int) - 8 * (K : Int) = (U : Int) := by omega
  have hKL : (K : Int) < L := by omega
  have hU0 : ¬ (U : Int) < 0 := by omega
  have hU8 : (U : Int) ≤ 8 := by omega
  have hLi : (L : Int) ≤ 100 := by omega
  have hni : (n : Int) ≤ 127 := by omega
  clear h hb hn hn2 hl hL hK hU hBB
  go_enter Try.func30, Try.ntmps30
  go_wp2
  go_ret
  refine ⟨ret_bool ?_, rfl⟩
  rw [Bool.eq_iff_iff]
  simp

/-- All its bytes set. -/
theorem Ob.copied {p g c n : Nat} {w : World} {bs cs : List Int} (o : Ob p g c w n bs) (hl : cs.length = (n + 7) / 8) : ∃ (cur : Array Value), w.heap[g]? = some (.cells cur 5 (0, 0)) ∧ cs.length ≤ cur.size ∧ Ob p g c (w.setRow g (cur.toList.take 0 ++ (cs.map (Value.int .u8) ++ cur.toList.drop (0 + (cs.map (Value.int .u8)).length))).toArray) n cs ∧ Chg (fun k => k = g) w (w.setRow g (cur.toList.take 0 ++ (cs.map (Value.int .u8) ++ cur.toList.drop (0 + (cs.map (Value.int .u8)).length))).toArray) := by
  rcases o.row.2 with ⟨hv, _⟩ | ⟨g', cap, cur, hv, hb, hg, hc, hm, hs, ht⟩
  · cases hv
  · cases hv
    refine ⟨cur, hg, by omega, ⟨?_, ⟨by rw [List.length_map, hl, Nat.mul_one], .inr ⟨g, c, _, rfl, Nat.zero_le _, setRow_heap w g _ _ _ _ hg, hc, hm, ?_, ?_⟩⟩, o.ne⟩, rfl, rfl, rfl, by simp [World.setRow], fun k hk hn => setRow_other w g k _ hn⟩
    · rw [setRow_other w g p _ o.ne]
      exact o.box
    · simp
      omega
    · rw [Nat.mul_one, ← hl, List.take_zero, List.nil_append]
      have e : cs.length = (cs.map (Value.int .u8)).length := by simp
      rw [e]
      exact List.take_left' rfl

set_option maxRecDepth 100000 in
set_option maxHeartbeats 2000000 in
theorem parse_any {J : Nat → Prop} (w : World) (n : Int) {v : Value} {b : List Int} (h : Lies J w v (b.map (Value.int .u8))) (hb : Bytes b) (hl : b.length ≤ 100000) :
    Calls Try.prog 20 #[.int .i64 n, v] w fun e w' => ∃ pv F, e = .returned (.tuple #[pv, .int .i64 (parseI n b).2]) ∧ ((parseI n b).2 = 0 → Bt F w' pv (parseI n b).1 ∧ ∀ k, F k → w.heap.size ≤ k) ∧ ((parseI n b).2 ≠ 0 → pv = .pointer none) ∧ Chg no w w' := by
  obtain ⟨a, c, rfl, _⟩ := h.slice
  simp only [List.length_map] at h ⊢
  have hcs : (Try.prog.info? 5).map (·.size) = some 1 := by kernel_rfl
  cases hm : mayN n
  · have e : parseI n b = ([], 1) := by unfold parseI; rw [if_pos hm]
    rw [e]
    have HN := new_no w n hm
    clear e hm h hb
    obtain ⟨L, hL⟩ : ∃ L, b.length = L := ⟨_, rfl⟩
    simp only [hL] at hl ⊢
    clear hL
    go_enter Try.func20, Try.ntmps20
    go_wp2_with fail
    refine HN.mono ?_
    rintro e w1 ⟨rfl, k⟩
    go_wp2
    go_ret2
    exact ⟨_, no, rfl, fun h => by simp at h, fun _ => rfl, k⟩
  · have hm' : 1 ≤ n ∧ n ≤ 127 := of_decide_eq_true hm
    obtain ⟨m, rfl⟩ : ∃ m : Nat, n = m := ⟨n.toNat, by omega⟩
    have HN : Hid (∀ W, Calls Try.prog 9 #[.int .i64 m] W fun e w' => ∃ p g c, e = .returned (.pointer (some ⟨p, 0, none⟩)) ∧ Ob p g c w' m (bytesOf (List.replicate m 0)) ∧ W.heap.size ≤ p ∧ W.heap.size ≤ g ∧ Chg no W w') := fun W => by
      refine (new_yes W m hm).mono ?_
      rintro e w' ⟨q, F, rfl, ⟨p, g, c, e2, o, hF, _⟩, hlow, k⟩
      rw [List.length_replicate] at o
      cases e2
      exact ⟨p, g, c, rfl, o, hlow _ ((hF p).2 (.inl rfl)), hlow _ ((hF g).2 (.inr rfl)), k⟩
    have HLn := fun W => length_any W m (by omega)
    have h1 : 1 ≤ m := by omega
    have h2 : m ≤ 127 := by omega
    by_cases hlen : b.length = (m + 7) / 8
    · have HE : Hid (∀ W, Chg no w W → _) := fun W (k : Chg no w W) => ends_any W m a c b (h.chg k (fun _ _ h => h)) hb h1 h2 hlen
      have hiff := parse_iff m b h1 hlen hb
      have HLies : Hid (∀ W, Chg no w W → Lies J W (.slice a b.length c) (b.map (Value.int .u8))) := fun W k => h.chg k (fun _ _ h => h)
      obtain ⟨y, rfl, _⟩ := lies_at8 h 0 (by omega)
      have HLn' : Hid (∀ W, Calls Try.prog 25 #[.int .i64 m] W fun e w' => e = .returned (.int .i64 (b.length : Int)) ∧ w' = W) := fun W => by rw [hlen]; exact HLn W
      have hlm : (m + 7) / 8 = b.length := hlen.symm
      by_cases hz : b.getD (b.length - 1) 0 / 2 ^ (m - 8 * (b.length - 1)) = 0
      · have e : parseI (m : Int) b = (bitsOf m b, 0) := by
          unfold parseI
          rw [if_neg (by rw [hm]; decide), Int.toNat_natCast, if_neg (by omega), if_pos (hiff.2 hz)]
        rw [e]
        rw [decide_eq_true hz] at HE
        have HO : Hid (∀ W p g c', Ob p g c' W m (bytesOf (List.replicate m 0)) → Lies J W (.slice (some y) b.length c) (b.map (Value.int .u8)) → w.heap.size ≤ p → w.heap.size ≤ g → Chg no w W → ∃ (cur : Array Value), W.heap[g]? = some (.cells cur 5 (0, 0)) ∧ b.length ≤ cur.size ∧ Bt (fun k => k = p ∨ k = g) (W.setRow g (cur.toList.take 0 ++ (b.map (Value.int .u8) ++ cur.toList.drop (0 + (b.map (Value.int .u8)).length))).toArray) (.pointer (some ⟨p, 0, none⟩)) (bitsOf m b) ∧ Chg no w (W.setRow g (cur.toList.take 0 ++ (b.map (Value.int .u8) ++ cur.toList.drop (0 + (b.map (Value.int .u8)).length))).toArray)) := fun W p g c' o _ hp hg k => by
          obtain ⟨cur, q1, q2, q3, q4⟩ := o.copied hlen
          have hbl : (bitsOf m b).length = m := bitsTo_len m b m
          refine ⟨cur, q1, q2, ⟨p, g, c', rfl, ?_, fun k => Iff.rfl, bitsTo_bin m b m, by rw [hbl]; exact h1, by rw [hbl]; exact h2⟩, k.trans q4 (fun j hj => .inr (by rw [hj]; exact hg))⟩
          rw [hbl, hiff.2 hz]
          exact q3
        obtain ⟨L, hL⟩ : ∃ L, b.length = L := ⟨_, rfl⟩
        have HLL : Hid ((b.map (Value.int .u8)).length = L) := by show _ = _; rw [List.length_map]; exact hL
        obtain ⟨CS, hCS⟩ : ∃ CS, b.map (Value.int .u8) = CS := ⟨_, rfl⟩
        have HC1 : Hid (∀ u ∈ CS, u.oneCell' = true) := by rw [← hCS]; exact u8s_one b
        simp only [hL, hCS] at HE HLn' HO HLies HLL hl hlm ⊢
        have hli : (L : Int) ≤ 100000 := by omega
        clear h hb hiff hlen hm hm' HLn e hz hL hCS
        go_enter Try.func20, Try.ntmps20
        go_wp2_with fail
        refine (HN.out w).mono ?_
        rintro e w1 ⟨p, g, c', rfl, o, hp, hg, k1⟩
        have O1 : Hid (Ob p g c' w1 m (bytesOf (List.replicate m 0))) := o
        have K1 : Hid (Chg no w w1) := k1
        have HP : Hid (w.heap.size ≤ p ∧ w.heap.size ≤ g) := ⟨hp, hg⟩
        have HL1 := HLn'.out w1
        clear o hp hg k1 HN
        go_wp2_with fail
        refine HL1.mono ?_
        rintro e w2 ⟨rfl, hw⟩
        subst hw
        have HE1 := HE.out w2 K1.out
        clear HL1 HE
        go_wp2_with fail
        refine HE1.mono ?_
        rintro e w3 ⟨rfl, hw⟩
        subst hw
        obtain ⟨cur, q1, q2, q3, q4⟩ := HO.out w3 p g c' O1.out (HLies.out w3 K1.out) HP.out.1 HP.out.2 K1.out
        obtain ⟨c0, c1, _⟩ := O1.out.cells
        have hsrc : Hid (∀ j u, CS[j]? = some u → w3.cell? (y.add j) = some u) := by
          rcases HLies.out w3 K1.out with ⟨hh, _⟩ | ⟨x, cap, e1, _, e3⟩
          · cases hh
          · simp only [Value.slice.injEq, Option.some.injEq] at e1
            rw [e1.1]
            exact e3
        rw [hlm] at c1
        have HQ1 : Hid (w3.heap[g]? = some (.cells cur 5 (0, 0))) := q1
        have HQ2 : Hid (L ≤ cur.size) := q2
        have HR : Hid (Bt (fun k => k = p ∨ k = g) (w3.setRow g (cur.toList.take 0 ++ (CS ++ cur.toList.drop (0 + CS.length))).toArray) (.pointer (some ⟨p, 0, none⟩)) (bitsOf m b) ∧ Chg no w (w3.setRow g (cur.toList.take 0 ++ (CS ++ cur.toList.drop (0 + CS.length))).toArray)) := ⟨q3, q4⟩
        clear q1 q2 q3 q4 HE1 HO HLies O1
        have HM1 : Hid (CS.length = Nat.min L L) := by show _ = _; rw [HLL.out]; simp
        have HM2 : Hid (0 + CS.length ≤ cur.size) := by show _ ≤ _; rw [HLL.out, Nat.zero_add]; exact HQ2.out
        obtain ⟨w9, hw9⟩ : ∃ w9, w3.setRow g (cur.toList.take 0 ++ (CS ++ cur.toList.drop (0 + CS.length))).toArray = w9 := ⟨_, rfl⟩
        rw [hw9] at HR
        have HW9 : Hid (w3.setRow g (cur.toList.take 0 ++ (CS ++ cur.toList.drop (0 + CS.length))).toArray = w9) := hw9
        clear hw9
        go_wp2_with (refine wpList_copy_own rfl (.tmp 25) (.tmp 26) 36 36 rfl 5 Try.underlying36 hcs g 0 L c' y L c rfl rfl cur 5 HQ1.out CS HM1.out hsrc.out HM2.out HC1.out ?_; rw [HW9.out])
        go_wp2
        go_ret2
        exact ⟨_, _, rfl, fun _ => ⟨HR.out.1, fun k hk => by have := HP.out; omega⟩, fun h => absurd rfl h, HR.out.2⟩
      · have e : parseI (m : Int) b = ([], 2) := by
          unfold parseI
          rw [if_neg (by rw [hm]; decide), Int.toNat_natCast, if_neg (by omega), if_neg (fun hh => hz (hiff.1 hh))]
        rw [e]
        rw [decide_eq_false hz] at HE
        obtain ⟨L, hL⟩ : ∃ L, b.length = L := ⟨_, rfl⟩
        simp only [hL] at HE HLn' hl ⊢
        have hli : (L : Int) ≤ 100000 := by omega
        clear h hb hiff hlen hm hm' HLn e hz hL HLies hlm
        go_enter Try.func20, Try.ntmps20
        go_wp2_with fail
        refine (HN.out w).mono ?_
        rintro e w1 ⟨p, g, c', rfl, o, hp, hg, k1⟩
        have K1 : Hid (Chg no w w1) := k1
        have HL1 := HLn'.out w1
        clear o hp hg k1 HN
        go_wp2_with fail
        refine HL1.mono ?_
        rintro e w2 ⟨rfl, hw⟩
        subst hw
        have HE1 := HE.out w2 K1.out
        clear HL1 HE
        go_wp2_with fail
        refine HE1.mono ?_
        rintro e w3 ⟨rfl, hw⟩
        subst hw
        go_wp2
        go_ret2
        exact ⟨_, no, rfl, fun h => by simp at h, fun _ => rfl, K1.out⟩
    · have e : parseI (m : Int) b = ([], 2) := by
        unfold parseI
        rw [if_neg (by rw [hm]; decide), Int.toNat_natCast, if_pos hlen]
      rw [e]
      obtain ⟨L, hL⟩ : ∃ L, b.length = L := ⟨_, rfl⟩
      obtain ⟨M, hM⟩ : ∃ M, (m + 7) / 8 = M := ⟨_, rfl⟩
      simp only [hM] at HLn
      rw [hL, hM] at hlen
      simp only [hL] at hl ⊢
      have hne : ¬ (L : Int) = (M : Int) := by omega
      have hne2 : ((L : Int) != (M : Int)) = true := by simp; omega
      have HLn' : Hid (∀ W, Calls Try.prog 25 #[.int .i64 m] W fun e w' => e = .returned (.int .i64 (M : Int)) ∧ w' = W) := HLn
      clear h hb hm hm' HLn e hL hM hlen
      go_enter Try.func20, Try.ntmps20
      go_wp2_with fail
      refine (HN.out w).mono ?_
      rintro e w1 ⟨p, g, c', rfl, o, hp, hg, k1⟩
      have K1 : Hid (Chg no w w1) := k1
      have HL1 := HLn'.out w1
      clear o hp hg k1 HN
      go_wp2_with fail
      refine HL1.mono ?_
      rintro e w2 ⟨rfl, hw⟩
      subst hw
      go_wp2
      go_ret2
      exact ⟨_, no, rfl, fun h => by simp at h, fun _ => rfl, K1.out⟩

end Go.Proofs.Ytallblnkgmioeaa.st
