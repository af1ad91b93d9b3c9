/- Contract of readBlocks. -/
import Derived.Test.YtlcbfdbnjohicaaReb
namespace Go.Proofs.Ytlcbfdbnjohicaa.st
open Go.ChangeShapes Go.WideShapes Go.ChangeAt Go.RowKit Go.Proofs.Ytlcbfdbnjohicaa.hp Go.Proofs.Ytlcbfdbnjohicaa.dg
set_option linter.unusedVariables false

theorem tak_num (zs : List Int) (h : 1 ≤ zs.length) : tak (zs, 0) 1 (isw 1) = (zs.drop 1, 0) ∧ tval (zs, 0) 1 = pid (zs.headD 0) + 1 := by
  have e1 : isw 1 = true := by decide
  have e2 : tak (zs, 0) 1 true = (zs.drop 1, 0) := by
    unfold tak
    rw [if_neg (by simp), if_neg (by simp), if_neg (by simp; omega)]
    rfl
  rw [e1]
  refine ⟨e2, ?_⟩
  unfold tval
  rw [e1, e2, if_pos rfl]
  cases zs with
  | nil => simp at h
  | cons d r =>
    unfold pid told
    simp [dec, most]

theorem tak_raw (zs : List Int) (h : 37 ≤ zs.length) : tak (zs, 0) 37 (decide ((0 : Int) ≤ 37)) = (zs.drop 37, 0) ∧ got (zs, 0) (tak (zs, 0) 37 (decide ((0 : Int) ≤ 37))) 37 = zs.take 37 := by
  have e2 : tak (zs, 0) 37 (decide ((0 : Int) ≤ 37)) = (zs.drop 37, 0) := by
    unfold tak
    rw [if_neg (by simp), if_neg (by simp), if_neg (by simp; omega)]
    rfl
  refine ⟨e2, ?_⟩
  rw [e2]
  rfl

theorem prs_zero (n : Nat) (b : List Int) (h : b.headD 0 = 0) : prs (n + 1) b = ([], b.drop 1) := by
  unfold prs
  rw [if_pos h]

theorem prs_more (n : Nat) (b : List Int) (h : b.headD 0 ≠ 0) : prs (n + 1) b = ((pid (b.headD 0), (b.drop 1).take 37) :: (prs n (b.drop 38)).1, (prs n (b.drop 38)).2) := by
  rw [prs, if_neg h]

/-- What was read so far, the reader behind it. -/
structure Rbl (w : World) (p : Nat) (F : Nat → Prop) (Z : Nat) (zs : List Int) (k : Nat) (xs : List BV) (D : Nat → Prop) (l : Value) (wr : World) : Prop where
  row : NewB 46 (fun b => b = p) w D xs l wr
  dn : ∀ b, D b → w.heap.size ≤ b
  rea : Rea wr p F (zs.drop (38 * k)) 0
  told : prs Z zs = (abs xs ++ (prs (Z - k) (zs.drop (38 * k))).1, (prs (Z - k) (zs.drop (38 * k))).2)
  len : xs.length = k

/-- What readBlocks answers. -/
def RblR (w : World) (p : Nat) (F : Nat → Prop) (R : List Bk × List Int) (e : Ending) (w' : World) : Prop :=
  ∃ v xs D, e = .returned v ∧ NewB 46 (fun b => b = p) w D xs v w' ∧ (∀ b, D b → w.heap.size ≤ b) ∧ Rea w' p F R.2 0 ∧ abs xs = R.1

set_option maxHeartbeats 4000000 in
theorem readBlocks_any {w : World} {p : Nat} {F : Nat → Prop} {zs : List Int} (Z : Nat) (h : Rea w p F zs 0) (hl : zs.length = 38 * Z) (hZ : Z ≤ 4) :
    Calls Try.prog 31 #[.pointer (some ⟨p, 0, none⟩), .int .i64 Z] w (RblR w p F (prs Z zs)) := by
  have hp := h.fp
  have hF := h.lt
  have hb : Bytes zs := by
    obtain ⟨J, a, c, h⟩ := h
    exact h.byt
  have H0 : Hid (Rbl w p F Z zs 0 [] no (.slice none 0 0) w) := by
    refine ⟨NewB.start (fun k hk => by have hk : k = p := hk; rw [hk]; exact hF p hp) (fun k hk => hk.elim), fun b hb => hb.elim, by simpa using h, ?_, rfl⟩
    simp [abs]
  have hpl : p < w.heap.size := hF p hp
  have HL : Hid (zs.length = 38 * Z) := hl
  have HBy : Hid (Bytes zs) := hb
  have HFl : Hid (∀ b, F b → b < w.heap.size) := hF
  obtain ⟨i0, hi, hz0, hz1, hz2⟩ := info_parts' info46
  have hZi : (Z : Int) ≤ 4 := by omega
  clear h hl hp hF hb
  go_enter Try.func31, Try.ntmps31
  go_wp2_with fail
  go_loopw [5, 8] (fun u i wr => ∃ k : Nat, k ≤ Z ∧ i = .int .i64 (k : Int) ∧ ∃ xs D, Rbl w p F Z zs k xs D u wr) (fun _ i _ => Z - (intOf i).toNat)
  case atStart => exact ⟨0, by omega, rfl, _, _, H0.out⟩
  case round =>
    clear H0
    obtain ⟨k, hk, rfl, xs, D, hR⟩ := hrel
    obtain ⟨a', c', m, XS, rfl, hm, ho, hadd⟩ := hR.row.ready
    by_cases hkn : k < Z
    · have hki : (k : Int) < Z := by omega
      have hzl : (zs.drop (38 * k)).length = 38 * (Z - k) := by rw [List.length_drop, HL.out]; omega
      obtain ⟨n, hn⟩ : ∃ n, Z - k = n + 1 := ⟨Z - k - 1, by omega⟩
      have htold := hR.told
      obtain ⟨t1, t2⟩ := tak_num (zs.drop (38 * k)) (by omega)
      obtain ⟨t3, t4⟩ := tak_raw ((zs.drop (38 * k)).drop 1) (by rw [List.length_drop]; omega)
      have hby := HBy.out.drop (38 * k)
      have HN := rnum_r (s := (zs.drop (38 * k), 0)) hR.rea 1
      rw [t1, t2] at HN
      have hdb : 0 ≤ (zs.drop (38 * k)).headD 0 ∧ (zs.drop (38 * k)).headD 0 ≤ 255 := by
        cases hc : zs.drop (38 * k) with
        | nil => simp
        | cons d r => exact hby d (by rw [hc]; simp)
      obtain ⟨d, hd⟩ : ∃ d, (zs.drop (38 * k)).headD 0 = d := ⟨_, rfl⟩
      rw [hd] at HN hdb
      have hP : (pid d + 1 = 0 ↔ d = 0) ∧ -1 ≤ pid d + 1 ∧ pid d + 1 ≤ 255 := by
        unfold pid
        split <;> omega
      obtain ⟨P, hPe⟩ : ∃ P, pid d + 1 = P := ⟨_, rfl⟩
      rw [hPe] at HN hP
      have HR : Hid (Rbl w p F Z zs k xs D (.slice a' m c') wr) := hR
      have hml : m ≤ 4 := by have : m = k := by rw [hm, hR.len]
                             omega
      by_cases hd0 : d = 0
      · have hP0 : P = 0 := hP.1.2 hd0
        have HF : Hid (∀ w1, RAt wr p F ((zs.drop (38 * k)).drop 1, 0) w1 → RblR w p F (prs Z zs) (.returned (.slice a' m c')) w1) := by
          intro w1 hA
          rw [hn, prs_zero _ _ (by rw [hd]; exact hd0)] at htold
          rw [htold]
          exact ⟨_, xs, D, rfl, HR.out.row.same hA.2, HR.out.dn, hA.1, by simp⟩
        subst hP0
        clear hR htold hadd ho hm t1 t2 t3 t4 hby hd hdb hP hPe
        go_wp2_with fail
        refine HN.mono ?_
        rintro e w1 ⟨rfl, hA⟩
        have HF1 := HF.out _ hA
        clear HN hA
        go_wp2
        go_ret
        exact HF1
      · have hP0 : P ≠ 0 := fun e => hd0 (hP.1.1 e)
        have hPb : (P == 0) = false := by simpa using hP0
        obtain ⟨pl, ph⟩ := hP.2
        have hwr : IntKind.i64.wrap (P - 1) = P - 1 := by simp [IntKind.wrap, IntKind.bits, IntKind.signed]; omega
        have hpP : pid d = P - 1 := by omega
        rw [hn, prs_more _ _ (by rw [hd]; exact hd0), hd, hpP, show (zs.drop (38 * k)).drop 38 = zs.drop (38 * (k + 1)) by rw [List.drop_drop]; congr 1 <;> omega, show n = Z - (k + 1) by omega] at htold
        have hdd : ((zs.drop (38 * k)).drop 1).drop 37 = zs.drop (38 * (k + 1)) := by
          rw [List.drop_drop, List.drop_drop]
          congr 1 <;> omega
        obtain ⟨g, hg⟩ : ∃ g, ((zs.drop (38 * k)).drop 1).take 37 = g := ⟨_, rfl⟩
        have hgl : g.length = 37 := by rw [← hg, List.length_take, List.length_drop]; omega
        have hgb : Bytes g := by rw [← hg]; exact (hby.drop 1).take 37
        rw [hdd] at t3
        rw [hg] at t4 htold
        have hlr : ((zs.drop (38 * k)).drop 1).length ≤ 100000000 := by rw [List.length_drop]; omega
        have HRW : Hid (∀ w1, RAt wr p F ((zs.drop (38 * k)).drop 1, 0) w1 → Calls Try.prog 40 #[.pointer (some ⟨p, 0, none⟩), .int .i64 37] w1 fun e w' => ∃ a c w2, e = .returned (.slice a 37 c) ∧ w'.ownsRow w1.heap.size 5 1 (.slice a 37 c) 37 (g.map (Value.int .u8)) ∧ RAt w1 p F (zs.drop (38 * (k + 1)), 0) w2 ∧ Chg no w2 w') := by
          intro w1 hA
          have := rraw_any (s := ((zs.drop (38 * k)).drop 1, 0)) hA.1 hlr 37
          rw [t4, t3, hgl] at this
          refine this.mono ?_
          rintro e w' ⟨v, w2, rfl, o, r1, r2⟩
          obtain ⟨a, c, rfl⟩ := owns_shape o
          exact ⟨a, c, w2, rfl, o, r1, r2⟩
        have HAP : Hid (∀ w1 a c w2 w3 W v5 w5, RAt wr p F ((zs.drop (38 * k)).drop 1, 0) w1 → w3.ownsRow w1.heap.size 5 1 (.slice a 37 c) 37 (g.map (Value.int .u8)) → RAt w1 p F (zs.drop (38 * (k + 1)), 0) w2 → Chg no w2 w3 → Chg no w3 W →
            W.ownsRow 0 46 2 (.slice a' m c') m XS ∧
            (w5.ownsRow 0 46 2 v5 (m + 1) (XS ++ [.int .i64 (P - 1), .slice a 37 c]) → W.grownBy w5 (Value.slice a' m c').ownBlock → (∀ b, v5.ownBlock = some b → (Value.slice a' m c').ownBlock = some b ∨ W.heap.size ≤ b) → ∃ xs' D', Rbl w p F Z zs (k + 1) xs' D' v5 w5)) := by
          intro w1 a c w2 w3 W v5 w5 r1 o r2 k3 k4
          have K : Chg (fun b => b = p) wr W := ((r1.2.then r2.2).then (k3.of_no _)).then (k4.of_no _)
          have s1 := r1.2.size
          have s2 := r2.2.size
          have s3 := k3.size
          have s4 := k4.size
          have sr := HR.out.row.chg.size
          refine ⟨ho W K, fun o5 g5 n5 => ?_⟩
          have hdl : ∀ b, (Value.slice a 37 c).ownBlock = some b → w1.heap.size ≤ b ∧ b < w3.heap.size := fun b hb => o.lt b hb
          refine ⟨xs ++ [⟨P - 1, .slice a 37 c, g⟩], fun b => D b ∨ (Value.slice a 37 c).ownBlock = some b, hadd ⟨P - 1, .slice a 37 c, g⟩ (fun b => D b ∨ (Value.slice a 37 c).ownBlock = some b) W v5 w5 K ?_ hgb (fun b hb => .inl hb) ?_ o5 g5 n5, ?_, ?_, ?_, ?_⟩
          · exact (Lies.of_owns o (fun b hb => .inr hb)).chg k4 (fun _ _ h => h)
          · rintro b (hb | hb)
            · exact .inl hb
            · have := hdl b hb
              exact .inr ⟨by omega, by omega⟩
          · rintro b (hb | hb)
            · exact HR.out.dn b hb
            · have := hdl b hb
              omega
          · have G : Chg (fun b => (Value.slice a' m c').ownBlock = some b) W w5 := (Chg.refl _ W).grown g5 (fun b hb => .inl hb)
            have row := HR.out.row.row
            exact (((r2.1.same k3).same k4)).chg G (fun b hb hb2 => by have := HFl.out b hb; have := (row.lt b hb2).1; omega)
          · rw [htold]
            simp [abs, BV.bk]
          · simp [HR.out.len]
        clear hR htold hadd ho hm t1 t2 t3 t4 hby hd hdb hP hPe hdd hg hgl hgb hlr hzl hn hP0 hpP hd0
        go_wp2_with fail
        refine HN.mono ?_
        rintro e w1 ⟨rfl, hA⟩
        have HA : Hid _ := hA
        clear HN hA
        go_wp2_with fail
        refine (HRW.out _ HA.out).mono ?_
        rintro e w3 ⟨a3, c3, w2, rfl, o3, r3, k3⟩
        have HQ := fun v5 w5 => HAP.out w1 a3 c3 w2 w3 (w3.alloc (.cells #[.int .i64 (P - 1), .slice a3 37 c3] 46)) v5 w5 HA.out o3 r3 k3 ((Chg.refl no w3).alloc _)
        have HO3 : Hid _ := (HQ (.slice none 0 0) w3).1
        have HQ2 : Hid _ := fun v5 w5 => (HQ v5 w5).2
        clear HQ o3 r3 k3 HRW HAP
        go_wp2_with (at_builtin; refine wpList_append_at rfl _ _ 22 rfl 46 i0 bz 2 32 Try.underlying22 hi hz0 hz1 hz2 rfl (by decide) (.slice a' m c') m XS rfl HO3.out ⟨w3.heap.size, 0, none⟩ 1 1 [.int .i64 (P - 1), .slice a3 37 c3] rfl rfl news_at (one_b _ _ _ _) (by unfold maxLen; omega) (by omega) ?_)
        intro v5 w5 o5 g5 n5
        obtain ⟨xs', D', hN⟩ := HQ2.out v5 w5 o5 g5 (by simpa using n5)
        obtain ⟨a5, c5, rfl⟩ := owns_shape o5
        have HN' : Hid _ := hN
        clear o5 g5 n5 hN HQ2
        go_wp2
        go_roundw
        case rel => exact ⟨k + 1, by omega, by go_num, xs', D', HN'.out⟩
        case measure => simp [intOf]; omega
    · obtain rfl : k = Z := by omega
      have hki : (k : Int) ≤ k := by omega
      have HF : Hid (RblR w p F (prs k zs) (.returned (.slice a' m c')) wr) := by
        have htold := hR.told
        rw [Nat.sub_self] at htold
        rw [htold]
        exact ⟨_, xs, D, rfl, hR.row, hR.dn, hR.rea, by simp [prs]⟩
      clear hR hadd ho hm
      go_wp2
      go_ret
      exact HF.out

end Go.Proofs.Ytlcbfdbnjohicaa.st
