/- Contracts of EqualFunc, Equal, Common. -/
import Derived.Test.YteehphmedmplkaaComp
import Derived.Deep.Cut
import Derived.Deep.CutRange
namespace Go.Proofs.Yteehphmedmplkaa.st
open Go.ChangeShapes Go.WideShapes Go.ChangeAt Go.RowKit Go.Proofs.Yteehphmedmplkaa.hp Go.Proofs.Yteehphmedmplkaa.md
set_option linter.unusedVariables false

/-- What a walk over two lists of records reads at a place. -/
def Two (w : World) (a b : Option Addr) (T U : List Rec) : Prop := ∀ (i : Nat) w', Chg no w w' → i < T.length → i < U.length → ∃ x y ab cb bb db, a = some x ∧ b = some y ∧
  w'.cell? (x.add (i * 3)) = some (.int .i64 (T.getD i dR).kind) ∧ w'.cell? ⟨(x.add (i * 3)).block, (x.add (i * 3)).off + 1, none⟩ = some (.int .i64 (T.getD i dR).addr) ∧ w'.cell? ⟨(x.add (i * 3)).block, (x.add (i * 3)).off + 2, none⟩ = some (.slice ab (T.getD i dR).zs.length cb) ∧
  w'.cell? (y.add (i * 3)) = some (.int .i64 (U.getD i dR).kind) ∧ w'.cell? ⟨(y.add (i * 3)).block, (y.add (i * 3)).off + 1, none⟩ = some (.int .i64 (U.getD i dR).addr) ∧ w'.cell? ⟨(y.add (i * 3)).block, (y.add (i * 3)).off + 2, none⟩ = some (.slice bb (U.getD i dR).zs.length db) ∧
  (∀ w'', Chg no w' w'' → Calls Try.prog 34 #[.agg #[.int .i64 (T.getD i dR).kind, .int .i64 (T.getD i dR).addr, .slice ab (T.getD i dR).zs.length cb], .agg #[.int .i64 (U.getD i dR).kind, .int .i64 (U.getD i dR).addr, .slice bb (U.getD i dR).zs.length db]] w'' fun e w3 => e = .returned (.bool (sm (T.getD i dR) (U.getD i dR))) ∧ Chg no w'' w3) ∧
  (∀ w'', Chg no w' w'' → Calls Try.prog 35 #[.agg #[.int .i64 (T.getD i dR).kind, .int .i64 (T.getD i dR).addr, .slice ab (T.getD i dR).zs.length cb], .agg #[.int .i64 (U.getD i dR).kind, .int .i64 (U.getD i dR).addr, .slice bb (U.getD i dR).zs.length db]] w'' fun e w3 => e = .returned (.bool (sm (T.getD i dR) (U.getD i dR))) ∧ Chg no w'' w3)

theorem two_of {J K : Nat → Prop} {w : World} {a b : Option Addr} {n c n' c' : Nat} {T U : List Rec} (hT : Tra J w (.slice a n c) T) (hU : Tra K w (.slice b n' c') U) : Two w a b T U := by
  intro i w' k h1 h2
  obtain ⟨x, ab, cb, rfl, hx, hv, e0, e1, e2, l1⟩ := (hT.same k).at i h1
  obtain ⟨y, bb, db, rfl, hy, hv', f0, f1, f2, l2⟩ := (hU.same k).at i h2
  exact ⟨x, y, ab, cb, bb, db, rfl, rfl, e0, e1, e2, f0, f1, f2, fun w'' k2 => same_any _ _ (l1.chg k2 (fun _ _ h => h)) (l2.chg k2 (fun _ _ h => h)), fun w'' k2 => sameOp_any _ _ (l1.chg k2 (fun _ _ h => h)) (l2.chg k2 (fun _ _ h => h))⟩

/-- The first k are the same. -/
def Front (T U : List Rec) (k : Nat) : Prop := k ≤ T.length ∧ k ≤ U.length ∧ ∀ i, i < k → (T.getD i dR).key = (U.getD i dR).key

theorem Front.more {T U : List Rec} {k : Nat} (h : Front T U k) (h1 : k < T.length) (h2 : k < U.length) (hs : sm (T.getD k dR) (U.getD k dR) = true) : Front T U (k + 1) := by
  refine ⟨h1, h2, fun i hi => ?_⟩
  by_cases hik : i < k
  · exact h.2.2 i hik
  · obtain rfl : i = k := by omega
    simpa [sm] using hs

theorem Front.ends {T U : List Rec} {k : Nat} (h : Front T U k) (he : k = T.length ∨ k = U.length ∨ sm (T.getD k dR) (U.getD k dR) = false) : comm (keys T) (keys U) = k := by
  refine comm_eq _ _ dR.key k (by simpa using h.1) (by simpa using h.2.1) (fun i hi => by rw [keys_at, keys_at]; exact h.2.2 i hi) ?_
  rcases he with he | he | he
  · exact .inl (by simpa using he)
  · exact .inr (.inl (by simpa using he))
  · refine .inr (.inr ?_)
    rw [keys_at, keys_at]
    simpa [sm] using he

theorem keys_eq {T U : List Rec} (h : T.length = U.length) : decide (keys T = keys U) = decide (comm (keys T) (keys U) = T.length) := by
  have := comm_whole (keys T) (keys U)
  simp only [keys, List.length_map] at this
  rw [decide_eq_decide, ← this]
  simp only [keys]
  rw [← h]
  exact ⟨fun h => h.1, fun h => ⟨h, h⟩⟩

theorem keys_ne {T U : List Rec} (h : T.length ≠ U.length) : decide (keys T = keys U) = false := by
  simp only [decide_eq_false_iff_not]
  intro e
  have := congrArg List.length e
  simp at this
  exact h this

set_option maxRecDepth 100000 in
set_option maxHeartbeats 2000000 in
theorem equalFunc_any {w : World} {a b : Option Addr} {n c n' c' : Nat} {T U : List Rec} (hn : n = T.length) (hn' : n' = U.length) (hb : n ≤ 1000000) (H : Two w a b T U) :
    Calls Try.prog 55 #[.slice a n c, .slice b n' c', .func (.func 34) #[] #[]] w fun e w' => e = .returned (.bool (decide (keys T = keys U))) ∧ Chg no w w' := by
  by_cases hnn : n = n'
  · have hTU : T.length = U.length := by omega
    rw [keys_eq hTU]
    subst hnn
    have HN : Hid (n = T.length ∧ n = U.length) := ⟨hn, hn'⟩
    have HT : Hid (Two w a b T U) := H
    clear hn hn' H hTU
    go_enter Try.func55, Try.ntmps55
    go_wp2_with fail
    go_loopw [17] (fun i wr => ∃ k : Nat, k ≤ n ∧ i = .int .i64 (k : Int) ∧ Front T U k ∧ Chg no w wr) (fun i _ => n - (intOf i).toNat)
    case atStart => exact ⟨0, by omega, rfl, ⟨by omega, by omega, fun i hi => by omega⟩, Chg.refl no w⟩
    case round =>
      obtain ⟨k, hk, rfl, hF, C⟩ := hrel
      by_cases hkn : k < n
      · have hki : (k : Int) < n := by omega
        have hk1 : k < T.length := by rw [← HN.out.1]; exact hkn
        have hk2 : k < U.length := by rw [← HN.out.2]; exact hkn
        obtain ⟨x, y, ab, cb, bb, db, rfl, rfl, e0, e1, e2, f0, f1, f2, S1, _⟩ := HT.out k wr C hk1 hk2
        have HF : Hid (∀ b, sm (T.getD k dR) (U.getD k dR) = b → (b = true → Front T U (k + 1)) ∧ (b = false → comm (keys T) (keys U) = k)) := fun b hb => ⟨fun e => hF.more hk1 hk2 (hb.trans e), fun e => hF.ends (.inr (.inr (hb.trans e)))⟩
        obtain ⟨s, hs⟩ : ∃ s, sm (T.getD k dR) (U.getD k dR) = s := ⟨_, rfl⟩
        have HF2 := HF.out s hs
        rw [hs] at S1
        obtain ⟨⟨k1, a1, v1, z1⟩, hX⟩ : ∃ X, T.getD k dR = X := ⟨_, rfl⟩
        obtain ⟨⟨k2, a2, v2, z2⟩, hY⟩ : ∃ X, U.getD k dR = X := ⟨_, rfl⟩
        rw [hX] at e0 e1 e2 S1
        rw [hY] at f0 f1 f2 S1
        have HS : Hid (∀ w'', Chg no wr w'' → Calls Try.prog 34 #[.agg #[.int .i64 k1, .int .i64 a1, .slice ab z1.length cb], .agg #[.int .i64 k2, .int .i64 a2, .slice bb z2.length db]] w'' fun e w3 => e = .returned (.bool s) ∧ Chg no w'' w3) := S1
        have HF3 : Hid ((s = true → Front T U (k + 1)) ∧ (s = false → comm (keys T) (keys U) = k)) := HF2
        simp only at e0 e1 e2 f0 f1 f2
        have cA := (Chg.refl no wr).alloc (.cells #[.int .i64 k1, .int .i64 a1, .slice ab z1.length cb] 61)
        have q0 := cA.cell f0 id
        have q1 := cA.cell f1 id
        have q2 := cA.cell f2 id
        clear hs hX hY S1 HF HF2 hF hk1 hk2 cA
        go_wp2_with fail
        refine (HS.out _ (((Chg.refl no wr).alloc _).alloc _)).mono ?_
        rintro e w3 ⟨rfl, k3⟩
        rcases s with _ | _
        · have hc := HF3.out.2 rfl
          have hne : ¬ k = T.length := by rw [← HN.out.1]; omega
          go_wp2
          go_ret
          refine ⟨ret_bool ?_, C.then ((((Chg.refl no wr).alloc _).alloc _).then k3)⟩
          rw [hc]
          simp [hne]
        · have hc := HF3.out.1 rfl
          go_wp2
          go_roundw
          case rel => exact ⟨k + 1, by omega, by go_num, hc, C.then ((((Chg.refl no wr).alloc _).alloc _).then k3)⟩
          case measure => simp [intOf]; omega
      · obtain rfl : k = n := by omega
        have hki : (k : Int) ≤ k := by omega
        have hc := hF.ends (.inl HN.out.1)
        have hT := HN.out.1
        clear hF
        go_wp2
        go_ret
        exact ⟨ret_bool (by rw [hc, ← hT]; simp), C⟩
  · rw [keys_ne (by omega)]
    have hni : ¬ (n : Int) = n' := by omega
    clear H hn hn'
    go_enter Try.func55, Try.ntmps55
    go_wp2
    go_ret
    exact ⟨rfl, Chg.refl no w⟩

theorem equal_ops {J K : Nat → Prop} {w : World} {a b : Option Addr} {n c n' c' : Nat} {T U : List Rec} (hT : Tra J w (.slice a n c) T) (hU : Tra K w (.slice b n' c') U) (hb : n ≤ 1000000) :
    Calls Try.prog 36 #[.slice a n c, .slice b n' c'] w fun e w' => e = .returned (.bool (decide (keys T = keys U))) ∧ Chg no w w' := by
  have H := equalFunc_any (c := c) (c' := c') hT.len hU.len hb (two_of hT hU)
  clear hT hU
  go_enter Try.func36, Try.ntmps36
  go_wp2_with fail
  refine H.mono ?_
  rintro e w1 ⟨rfl, k1⟩
  go_wp2
  go_ret
  exact ⟨rfl, k1⟩

set_option maxRecDepth 100000 in
set_option maxHeartbeats 4000000 in
theorem common_ops {J K : Nat → Prop} {w : World} {a b : Option Addr} {n c n' c' : Nat} {T U : List Rec} (hT : Tra J w (.slice a n c) T) (hU : Tra K w (.slice b n' c') U) (hb : n ≤ 1000000) (hb' : n' ≤ 1000000) :
    Calls Try.prog 37 #[.slice a n c, .slice b n' c'] w fun e w' => e = .returned (.int .i64 (comm (keys T) (keys U))) ∧ Chg no w w' := by
  have HN : Hid (n = T.length ∧ n' = U.length) := ⟨hT.len, hU.len⟩
  have HT : Hid (Two w a b T U) := two_of hT hU
  clear hT hU
  obtain ⟨N, hN1, hN2, hN3, hN4⟩ : ∃ N : Nat, (if (n' : Int) < (n : Int) then (n' : Int) else (n : Int)) = N ∧ N ≤ n ∧ N ≤ n' ∧ (N = n ∨ N = n') := by
    by_cases h : (n' : Int) < n
    · exact ⟨n', by rw [if_pos h], by omega, by omega, .inr rfl⟩
    · exact ⟨n, by rw [if_neg h], by omega, by omega, .inl rfl⟩
  have HN4 : Hid (N = n ∨ N = n') := hN4
  clear hN4
  go_enter Try.func37, Try.ntmps37
  go_upto_region 1 with fail
  go_cut [5] from 7 to 11 (fun v wc => v = .int .i64 (N : Int) ∧ wc = w)
  case first =>
    go_wp2
    all_goals go_meet
    case rel => exact ⟨by rw [← hN1, if_pos (by omega)], rfl⟩
    case rel => exact ⟨by rw [← hN1, if_neg (by omega)], rfl⟩
  case rest =>
    obtain ⟨rfl, rfl⟩ := hcut
    clear hN1
    go_wp2_with fail
    go_loopw [13] (fun i wr => ∃ k : Nat, k ≤ N ∧ i = .int .i64 (k : Int) ∧ Front T U k ∧ Chg no wc wr) (fun i _ => N - (intOf i).toNat)
    case atStart => exact ⟨0, by omega, rfl, ⟨by omega, by omega, fun i hi => by omega⟩, Chg.refl no _⟩
    case round =>
      obtain ⟨k, hk, rfl, hF, C⟩ := hrel
      by_cases hkn : k < N
      · have hki : (k : Int) < N := by omega
        have hki1 : (k : Int) < n := by omega
        have hki2 : (k : Int) < n' := by omega
        have hk1 : k < T.length := by rw [← HN.out.1]; omega
        have hk2 : k < U.length := by rw [← HN.out.2]; omega
        obtain ⟨x, y, ab, cb, bb, db, rfl, rfl, e0, e1, e2, f0, f1, f2, S1, _⟩ := HT.out k wr C hk1 hk2
        obtain ⟨s, hs⟩ : ∃ s, sm (T.getD k dR) (U.getD k dR) = s := ⟨_, rfl⟩
        have HF3 : Hid ((s = true → Front T U (k + 1)) ∧ (s = false → comm (keys T) (keys U) = k)) := ⟨fun e => hF.more hk1 hk2 (hs.trans e), fun e => hF.ends (.inr (.inr (hs.trans e)))⟩
        rw [hs] at S1
        obtain ⟨⟨k1, a1, v1, z1⟩, hX⟩ : ∃ X, T.getD k dR = X := ⟨_, rfl⟩
        obtain ⟨⟨k2, a2, v2, z2⟩, hY⟩ : ∃ X, U.getD k dR = X := ⟨_, rfl⟩
        rw [hX] at e0 e1 e2 S1
        rw [hY] at f0 f1 f2 S1
        have HS : Hid (∀ w'', Chg no wr w'' → Calls Try.prog 34 #[.agg #[.int .i64 k1, .int .i64 a1, .slice ab z1.length cb], .agg #[.int .i64 k2, .int .i64 a2, .slice bb z2.length db]] w'' fun e w3 => e = .returned (.bool s) ∧ Chg no w'' w3) := S1
        simp only at e0 e1 e2 f0 f1 f2
        clear hs hX hY S1 hF hk1 hk2
        go_wp2_with fail
        obtain ⟨pG, hpG⟩ : ∃ pG : World → Prop, ∀ w', pG w' ↔ Chg no wr w' := ⟨_, fun _ => Iff.rfl⟩
        obtain ⟨pT, hpT⟩ : ∃ pT : World → Prop, ∀ w', pT w' ↔ True := ⟨_, fun _ => Iff.rfl⟩
        have hx0 : ∀ q : far.InC pG, q.w.cell? (x.add (k * 3)) = some (.int .i64 k1) := fun q => ((hpG _).1 q.h).cell e0 id
        have hx1 : ∀ q : far.InC pG, q.w.cell? ⟨(x.add (k * 3)).block, (x.add (k * 3)).off + 1, none⟩ = some (.int .i64 a1) := fun q => ((hpG _).1 q.h).cell e1 id
        have hx2 : ∀ q : far.InC pG, q.w.cell? ⟨(x.add (k * 3)).block, (x.add (k * 3)).off + 2, none⟩ = some (.slice ab z1.length cb) := fun q => ((hpG _).1 q.h).cell e2 id
        have hy0 : ∀ q : far.InC pG, q.w.cell? (y.add (k * 3)) = some (.int .i64 k2) := fun q => ((hpG _).1 q.h).cell f0 id
        have hy1 : ∀ q : far.InC pG, q.w.cell? ⟨(y.add (k * 3)).block, (y.add (k * 3)).off + 1, none⟩ = some (.int .i64 a2) := fun q => ((hpG _).1 q.h).cell f1 id
        have hy2 : ∀ q : far.InC pG, q.w.cell? ⟨(y.add (k * 3)).block, (y.add (k * 3)).off + 2, none⟩ = some (.slice bb z2.length db) := fun q => ((hpG _).1 q.h).cell f2 id
        have iG : Nonempty (far.InC pG) := ⟨⟨wr, (hpG _).2 (Chg.refl no wr)⟩⟩
        have iT : Nonempty (far.InC pT) := ⟨⟨wr, (hpT _).2 trivial⟩⟩
        have HpT : Hid (∀ w', pT w' ↔ True) := hpT
        have HYG : Hid (pG wr.drew) := (hpG _).2 (Chg.refl no wr).drew
        clear hpG hpT e0 e1 e2 f0 f1 f2
        refine far.region_farM (fun κ w' => κ ≤ 0 → pG w') [8] (by kernel_rfl) (by kernel_rfl) (fun _ => HYG.out) ?_
        intro L e1' e2' e3'
        refine far.farO_stretch pG 8 0 0 e1' e2' e3' (by kernel_rfl) (by kernel_rfl) (fun κ w' hk1 hk2 hC => hC (by omega)) ?_
        simp only [List.take_succ_cons, List.take_zero, List.drop_succ_cons, List.drop_zero, Nat.reduceAdd]
        repeat (go_big_quiet_step (fail))
        refine wpQuiet_nil ?_
        refine far.farO_enter e1' e2' 0 rfl rfl 34 #[.agg #[.int .i64 k1, .int .i64 a1, .slice ab z1.length cb], .agg #[.int .i64 k2, .int .i64 a2, .slice bb z2.length db]] (by kernel_rfl) (by kernel_rfl) ?_
        refine (HS.out _ (Chg.refl no wr).drew).mono ?_
        rintro e w3 ⟨rfl, k3⟩
        refine ⟨_, rfl, fun h => by omega, ?_⟩
        simp only [Act.put, List.setIfInBounds_toArray, List.set_cons_succ, List.set_cons_zero, Nat.reduceAdd]
        refine far.farO_stretch pT 1 1 1 e1' e2' e3' (by kernel_rfl) (by kernel_rfl) (fun κ w' hk1 hk2 hC => (HpT.out _).2 trivial) ?_
        simp only [List.take_succ_cons, List.take_zero, List.drop_succ_cons, List.drop_zero, Nat.reduceAdd]
        repeat (go_big_quiet_step (fail))
        refine wpQuiet_nil ?_
        refine far.farO_nil ?_
        clear hx0 hx1 hx2 hy0 hy1 hy2 iG iT
        have C3 := C.then ((Chg.refl no wr).drew.then k3)
        rcases s with _ | _
        · have hc := HF3.out.2 rfl
          go_wp2
          go_ret
          exact ⟨rfl, C3⟩
        · have hc := HF3.out.1 rfl
          go_wp2
          go_roundw
          case rel => exact ⟨k + 1, by omega, by go_num, hc, C3⟩
          case measure => simp [intOf]; omega
      · obtain rfl : k = N := by omega
        have hki : (k : Int) ≤ k := by omega
        have hc := hF.ends (by rcases HN4.out with h | h; exact .inl (h.trans HN.out.1); exact .inr (.inl (h.trans HN.out.2)))
        clear hF
        go_wp2
        go_ret
        exact ⟨by rw [hc]; rfl, C⟩

end Go.Proofs.Yteehphmedmplkaa.st
