/- Contracts of Clone, anyTwice, idsOf. -/
import Derived.Test.YtkaohjlnlgennaaByd
import Derived.Lib.SliceRun
namespace Go.Proofs.Ytkaohjlnlgennaa.st
open Go.ChangeShapes Go.WideShapes Go.ChangeAt Go.RowKit Go.Proofs.Ytkaohjlnlgennaa.hp Go.Proofs.Ytkaohjlnlgennaa.tm Go.Proofs.Ytkaohjlnlgennaa.ev
set_option linter.unusedVariables false
set_option linter.unusedSimpArgs false

theorem clone_any {J : Nat → Prop} (v : Value) (its : List (Int × Int)) (w : World) (h : Lie J w v its.length (its.flatMap f2)) (hl : its.length ≤ 100000) :
    Calls Try.prog 47 #[v] w fun e w' => ∃ v', e = .returned v' ∧ NewR 35 2 f2 w its v' w' := by
  obtain ⟨i0, hi, hz0, hz1, hz2⟩ := info_parts info35
  have hmade := World.ownsRow_made (base := w.heap.size) (e := 35) (size := 2) w #[] 0 (Nat.le_refl _) (by unfold maxLen; omega) rfl
  have hlen := flat_length len2 its
  have q23 : ∀ (w : World) (a : Option Addr) (n c n' c' : Nat), (binOp .eql 23 (.slice a n c) (.slice none n' c')).run Try.prog w = .ok (.bool a.isNone) w := fun w a n c n' c' => Lib.run_eql_slice_nil w _ _ a n c n' c' Try.underlying23
  rcases h with ⟨rfl, h0, h1⟩ | ⟨x, cap, rfl, hx, hc⟩
  · obtain rfl : its = [] := List.eq_nil_of_length_eq_zero h0
    go_enter Try.func47, Try.ntmps47
    go_wp2
    go_ret
    exact ⟨_, rfl, NewR.nil (Chg.refl no w)⟩
  · go_enter Try.func47, Try.ntmps47
    go_wp2_with (at_builtin; refine wpList_append_own _ rfl _ _ 23 rfl w.heap.size 35 i0 (nv 0 0) 2 16 Try.underlying23 hi hz0 hz1 hz2 rfl (by decide) _ 0 [] rfl hmade x _ cap (its.flatMap f2) rfl ?c1 ?c2 ?c3 ?c4 ?c5 ?c6 ?_)
    case c1 => exact hlen
    case c2 => exact fun j u hu => ((Chg.refl no w).alloc _).cell (hc j u hu) id
    case c3 => exact one2 _
    case c4 => unfold maxLen; omega
    case c5 => omega
    case c6 => simp
    intro v' w1 hown hg _
    go_wp2
    go_ret
    refine ⟨v', rfl, by simpa using hown, ((Chg.refl no w).alloc _).grown hg ?_⟩
    intro k hk
    simp [Value.ownBlock] at hk
    omega

theorem getD_getD {ds : List (Int × Int)} {k : Nat} (hk : k < ds.length) : (ids ds).getD k 0 = (ds.getD k (0, 0)).1 := by
  unfold ids
  rw [List.getD_eq_getElem?_getD, List.getD_eq_getElem?_getD, List.getElem?_map, List.getElem?_eq_getElem hk]
  rfl

/-- Rising, and no neighbours alike: none twice. -/
theorem nodup_of {zs : List Int} (hs : zs.Pairwise (· ≤ ·)) (hn : ∀ p, 1 ≤ p → p < zs.length → zs.getD (p - 1) 0 ≠ zs.getD p 0) : zs.Nodup := by
  induction zs with
  | nil => exact List.nodup_nil
  | cons a zs ih =>
    obtain ⟨h1, h2⟩ := List.pairwise_cons.1 hs
    refine List.nodup_cons.2 ⟨?_, ih h2 fun p hp hl => ?_⟩
    · cases zs with
      | nil => simp
      | cons b zs =>
        have hab := hn 1 (by omega) (by simp)
        simp at hab
        have hab2 := h1 b (by simp)
        intro hm
        rcases List.mem_cons.1 hm with e | e
        · exact hab e
        · have := (List.pairwise_cons.1 h2).1 a e
          omega
    · have := hn (p + 1) (by omega) (by simp; omega)
      cases p with
      | zero => omega
      | succ p => simpa using this

theorem not_nodup {zs : List Int} {p : Nat} (h1 : 1 ≤ p) (h2 : p < zs.length) (h : zs.getD (p - 1) 0 = zs.getD p 0) : ¬ zs.Nodup := by
  intro hn
  rw [List.getD_eq_getElem?_getD, List.getD_eq_getElem?_getD, List.getElem?_eq_getElem h2, List.getElem?_eq_getElem (by omega)] at h
  have := (List.getElem_inj hn).1 h
  omega

theorem anyTwice_any {J : Nat → Prop} (w : World) (v : Value) (ds : List (Int × Int)) (h : Lie J w v ds.length (ds.flatMap f2)) (hl : ds.length ≤ 100000) (hs : (ids ds).Pairwise (· ≤ ·)) :
    Calls Try.prog 28 #[v] w fun e w' => e = .returned (.bool (!decide (ids ds).Nodup)) ∧ Chg no w w' := by
  obtain ⟨a, c, rfl⟩ := h.slice
  obtain ⟨n, hn⟩ : ∃ n, ds.length = n := ⟨_, rfl⟩
  have EN : Hid (ds.length = n) := hn
  rw [hn] at h hl ⊢
  have HV : Hid (Lie J w (.slice a n c) n (ds.flatMap f2)) := h
  have HS : Hid ((ids ds).Pairwise (· ≤ ·)) := hs
  have hni : (n : Int) ≤ 100000 := by omega
  have EI : Hid ((ids ds).length = n) := by show _ = _; simp [ids, hn]
  obtain ⟨ans, hans⟩ : ∃ x, (!decide (ids ds).Nodup) = x := ⟨_, rfl⟩
  have HA : Hid ((!decide (ids ds).Nodup) = ans) := hans
  rw [hans]
  clear h hn hans hl hs
  go_enter Try.func28, Try.ntmps28
  go_wp2_with fail
  go_loopw [3] (fun i wr => ∃ j : Nat, 1 ≤ j ∧ j ≤ n + 1 ∧ i = .int .i64 (j : Int) ∧ Chg no w wr ∧ ∀ p, 1 ≤ p → p < j → p < n → (ids ds).getD (p - 1) 0 ≠ (ids ds).getD p 0) (fun i _ => n + 1 - (intOf i).toNat)
  case atStart => exact ⟨1, by omega, by omega, rfl, Chg.refl no w, fun p h1 h2 _ => by omega⟩
  case round =>
    obtain ⟨j, hj1, hj, rfl, hC, hne⟩ := hrel
    have HC : Hid (Chg no w wr) := hC
    have HN : Hid (∀ p, 1 ≤ p → p < j → p < n → (ids ds).getD (p - 1) 0 ≠ (ids ds).getD p 0) := hne
    clear hne hC
    by_cases hjn : j < n
    · have hji : (j : Int) < n := by omega
      obtain ⟨y, rfl, c0, _, hlt, hnx⟩ := (HV.out.same HC.out).at2 (j - 1) (by rw [EN.out]; omega)
      obtain ⟨y', e', d0, _, hlt', hnx'⟩ := (HV.out.same HC.out).at2 j (by rw [EN.out]; omega)
      cases e'
      obtain ⟨A, hA⟩ : ∃ A, (ds.getD (j - 1) (0, 0)).1 = A := ⟨_, rfl⟩
      obtain ⟨B, hB⟩ : ∃ B, (ds.getD j (0, 0)).1 = B := ⟨_, rfl⟩
      have HG : Hid ((ids ds).getD (j - 1) 0 = A ∧ (ids ds).getD j 0 = B) := ⟨by rw [getD_getD (by rw [EN.out]; omega), hA], by rw [getD_getD (by rw [EN.out]; omega), hB]⟩
      rw [hA] at c0
      rw [hB] at d0
      have wr1 : IntKind.i64.wrap ((j : Int) - 1) = (j : Int) - 1 := by rw [IntKind.wrap_i64]; omega
      have tn1 : ((j : Int) - 1).toNat = j - 1 := by omega
      have lt1 : (j : Int) - 1 < n := by omega
      have nn1 : (0 : Int) ≤ (j : Int) - 1 := by omega
      clear hA hB
      by_cases hAB : A = B
      · subst hAB
        have e : ans = true := by
          rw [← HA.out, decide_eq_false (not_nodup hj1 (by rw [EI.out]; exact hjn) (by rw [HG.out.1, HG.out.2]))]
          rfl
        subst e
        clear HA
        go_wp2_with fail
        go_quiet (fail)
        go_wp2
        go_ret
        exact ⟨rfl, HC.out.drewN _⟩
      · have hd : (A == B) = false := by simpa using hAB
        go_wp2_with fail
        go_quiet (fail)
        go_wp2
        go_roundw
        case rel =>
          refine ⟨j + 1, by omega, by omega, by go_num, HC.out.drewN _, fun p h1 h2 h3 => ?_⟩
          by_cases e : p < j
          · exact HN.out p h1 e h3
          · obtain rfl : p = j := by omega
            rw [HG.out.1, HG.out.2]
            exact hAB
        case measure => simp [intOf]; omega
    · have hji : ¬ ((j : Int) < n) := by omega
      have e : ans = false := by
        rw [← HA.out, decide_eq_true (nodup_of HS.out fun p h1 h2 => HN.out p h1 (by rw [EI.out] at h2; omega) (by rw [EI.out] at h2; exact h2))]
        rfl
      subst e
      clear HA
      go_wp2
      go_ret
      exact ⟨rfl, HC.out⟩

/-- The first k told, zeros behind. -/
def pre0 (zs : List Int) (k : Nat) : List Int := zs.take k ++ List.replicate (zs.length - k) 0

theorem pre0_zero (zs : List Int) : pre0 zs 0 = List.replicate zs.length 0 := by simp [pre0]
theorem pre0_len (zs : List Int) (k : Nat) (hk : k ≤ zs.length) : (pre0 zs k).length = zs.length := by
  simp [pre0]
  omega
theorem pre0_all (zs : List Int) : pre0 zs zs.length = zs := by simp [pre0]
theorem pre0_set (zs : List Int) (k : Nat) (hk : k < zs.length) : (pre0 zs k).set k (zs.getD k 0) = pre0 zs (k + 1) := by
  unfold pre0
  obtain ⟨m, hm⟩ : ∃ m, zs.length - k = m + 1 := ⟨zs.length - k - 1, by omega⟩
  rw [hm, List.replicate_succ, List.set_append_right _ _ (by simp; omega)]
  have e : k - (zs.take k).length = 0 := by simp; omega
  rw [e, List.set_cons_zero, take_next zs 0 k hk, List.append_assoc, show zs.length - (k + 1) = m by omega]
  rfl

theorem idsOf_any {J : Nat → Prop} (w : World) (v : Value) (ds : List (Int × Int)) (h : Lie J w v ds.length (ds.flatMap f2)) (hl : ds.length ≤ 100000) :
    Calls Try.prog 31 #[v] w fun e w' => ∃ v', e = .returned v' ∧ New w (ids ds) v' w' := by
  obtain ⟨i0, hi, hz0, hz1, hz2⟩ := info_parts info3
  obtain ⟨a, c, rfl⟩ := h.slice
  obtain ⟨zs, hzs⟩ : ∃ zs, ids ds = zs := ⟨_, rfl⟩
  obtain ⟨n, hn⟩ : ∃ n, ds.length = n := ⟨_, rfl⟩
  have EN : Hid (ds.length = n) := hn
  have EZ : Hid (zs.length = n) := by show _ = _; rw [← hzs]; simp [ids, hn]
  have HZ : Hid (∀ k, k < n → zs.getD k 0 = (ds.getD k (0, 0)).1) := fun k hk => by rw [← hzs, getD_getD (by rw [hn]; exact hk)]
  rw [hzs]
  rw [hn] at h hl ⊢
  have HV : Hid (Lie J w (.slice a n c) n (ds.flatMap f2)) := h
  have hni : (n : Int) ≤ 100000 := by omega
  clear h hn hzs
  go_enter Try.func31, Try.ntmps31
  go_wp2_with (at_make; refine wpList_make_full _ rfl _ _ 22 rfl w.heap.size 3 i0 (.int .i64 0) 1 Try.underlying22 hi hz0 hz1 .i64 .i64 n n n rfl rfl rfl rfl ?c1 ?c2 ?c3 ?_)
  case c1 => rw [hz2]; omega
  case c2 => unfold maxLen; omega
  case c3 => omega
  intro w2 hown hg
  have HN0 : Hid (New w (pre0 zs 0) (.slice (some ⟨w.heap.size, 0, none⟩) n n) w2) := by
    refine ⟨?_, (Chg.refl no w).grown hg (by simp)⟩
    rw [pre0_zero, EZ.out]
    have e : (madeCells #[Value.int .i64 0] n).toList = (List.replicate n (0 : Int)).map (Value.int .i64) := by rw [toList_madeCells_one]; simp
    rw [e] at hown
    rw [List.length_replicate]
    exact hown
  clear hown hg
  go_wp2_with fail
  go_loopw [11] (fun i wr => ∃ k : Nat, k ≤ n ∧ i = .int .i64 (k : Int) ∧ New w (pre0 zs k) (.slice (some ⟨w.heap.size, 0, none⟩) n n) wr) (fun i _ => n - (intOf i).toNat)
  case atStart => exact ⟨0, by omega, rfl, HN0.out⟩
  case round =>
    clear HN0
    obtain ⟨k, hk, rfl, hN⟩ := hrel
    have HN : Hid (New w (pre0 zs k) (.slice (some ⟨w.heap.size, 0, none⟩) n n) wr) := hN
    clear hN
    by_cases hkn : k < n
    · have hki : (k : Int) < n := by omega
      obtain ⟨y, rfl, c0, c1, hlt, hne⟩ := (HV.out.same HN.out.2).at2 k (by rw [EN.out]; exact hkn)
      obtain ⟨⟨p, l⟩, hpl⟩ : ∃ x, ds.getD k (0, 0) = x := ⟨_, rfl⟩
      have HE : Hid ((pre0 zs k).set k p = pre0 zs (k + 1)) := by
        show _ = _
        rw [← pre0_set zs k (by rw [EZ.out]; exact hkn), HZ.out k hkn, hpl]
      rw [hpl] at c0 c1
      simp only at c0 c1
      clear hpl
      have hsz := HN.out.2.size
      have hlw : w.heap.size < wr.heap.size := (HN.out.1.lt w.heap.size rfl).2
      have hnw : w.heap.size ≠ wr.heap.size := by omega
      obtain ⟨u, hu⟩ : ∃ u, (pre0 zs k)[k]? = some u := ⟨_, List.getElem?_eq_getElem (by rw [pre0_len zs k (by rw [EZ.out]; omega), EZ.out]; exact hkn)⟩
      obtain ⟨_, e, _, q0, q1⟩ := owns_at (k := k) (u := .int .i64 u) (by have := HN.out.1; rw [pre0_len zs k (by rw [EZ.out]; omega), EZ.out] at this; exact this) (by rw [List.getElem?_map, hu]; rfl)
      cases e
      clear hu
      go_wp2
      go_roundw
      case rel =>
        refine ⟨k + 1, by omega, by go_num, ?_⟩
        have := (HN.out.set (k := k) p).chg ((Chg.refl no _).alloc (.cells #[.int .i64 p, .int .i64 l] 35))
        rw [HE.out] at this
        exact this
      case measure => simp [intOf]; omega
    · obtain rfl : k = n := by omega
      have hki : ¬ ((k : Int) < k) := by omega
      have HN2 : Hid (New w zs (.slice (some ⟨w.heap.size, 0, none⟩) k k) wr) := by
        have := HN.out
        have e : pre0 zs k = zs := by rw [← EZ.out, pre0_all]
        rw [e] at this
        exact this
      clear HN
      go_wp2
      go_ret
      exact ⟨_, rfl, HN2.out⟩

end Go.Proofs.Ytkaohjlnlgennaa.st
