/- Contracts of the document's Common, SameOps; of Plain. -/
import Derived.Test.YteehphmedmplkaaCompE
namespace Go.Proofs.Yteehphmedmplkaa.st
open Go.ChangeShapes Go.WideShapes Go.ChangeAt Go.RowKit Go.Proofs.Yteehphmedmplkaa.hp Go.Proofs.Yteehphmedmplkaa.md
set_option linter.unusedVariables false

set_option maxRecDepth 100000 in
set_option maxHeartbeats 4000000 in
theorem rcommon_ops {J K : Nat → Prop} {w : World} {a b : Option Addr} {n c n' c' : Nat} {T U : List Rec} (hT : Tra J w (.slice a n c) T) (hU : Tra K w (.slice b n' c') U) (hb : n ≤ 1000000) (hb' : n' ≤ 1000000) :
    Calls Try.prog 38 #[.slice a n c, .slice b n' c'] w fun e w' => e = .returned (.int .i64 (comm (keys T) (keys U))) ∧ Chg no w w' := by
  have HN : Hid (n = T.length ∧ n' = U.length) := ⟨hT.len, hU.len⟩
  have HT : Hid (Two w a b T U) := two_of hT hU
  clear hT hU
  go_enter Try.func38, Try.ntmps38
  go_wp2_with fail
  go_loopw [5] (fun i wr => ∃ k : Nat, k ≤ n ∧ k ≤ n' ∧ i = .int .i64 (k : Int) ∧ Front T U k ∧ Chg no w wr) (fun i _ => n - (intOf i).toNat)
  case atStart => exact ⟨0, by omega, by omega, rfl, ⟨by omega, by omega, fun i hi => by omega⟩, Chg.refl no _⟩
  case round =>
    obtain ⟨k, hk, hk', rfl, hF, C⟩ := hrel
    by_cases hkn : k < n
    · have hki1 : (k : Int) < n := by omega
      by_cases hkn' : k < n'
      · have hki2 : (k : Int) < n' := by omega
        have hk1 : k < T.length := by rw [← HN.out.1]; omega
        have hk2 : k < U.length := by rw [← HN.out.2]; omega
        obtain ⟨x, y, ab, cb, bb, db, rfl, rfl, e0, e1, e2, f0, f1, f2, _, S1⟩ := HT.out k wr C hk1 hk2
        obtain ⟨s, hs⟩ : ∃ s, sm (T.getD k dR) (U.getD k dR) = s := ⟨_, rfl⟩
        have HF3 : Hid ((s = true → Front T U (k + 1)) ∧ (s = false → comm (keys T) (keys U) = k)) := ⟨fun e => hF.more hk1 hk2 (hs.trans e), fun e => hF.ends (.inr (.inr (hs.trans e)))⟩
        rw [hs] at S1
        obtain ⟨⟨k1, a1, v1, z1⟩, hX⟩ : ∃ X, T.getD k dR = X := ⟨_, rfl⟩
        obtain ⟨⟨k2, a2, v2, z2⟩, hY⟩ : ∃ X, U.getD k dR = X := ⟨_, rfl⟩
        rw [hX] at e0 e1 e2 S1
        rw [hY] at f0 f1 f2 S1
        have HS : Hid (∀ w'', Chg no wr w'' → Calls Try.prog 35 #[.agg #[.int .i64 k1, .int .i64 a1, .slice ab z1.length cb], .agg #[.int .i64 k2, .int .i64 a2, .slice bb z2.length db]] w'' fun e w3 => e = .returned (.bool s) ∧ Chg no w'' w3) := S1
        simp only at e0 e1 e2 f0 f1 f2
        clear hs hX hY S1 hF hk1 hk2
        go_wp2_with fail
        obtain ⟨pG, hpG⟩ : ∃ pG : World → Prop, ∀ w', pG w' ↔ Chg no wr w' := ⟨_, fun _ => Iff.rfl⟩
        obtain ⟨pT, hpT⟩ : ∃ pT : World → Prop, ∀ w', pT w' ↔ True := ⟨_, fun _ => Iff.rfl⟩
        have hx0 : ∀ q : far.InC pG, q.w.cell? (x.add (k * 3)) = some (.int .i64 k1) := fun q => ((hpG _).1 q.h).cell e0 id
        have hx1 : ∀ q : far.InC pG, q.w.cell? ⟨(x.add (k * 3)).block, (x.add (k * 3)).off + 1, none⟩ = some (.int .i64 a1) := fun q => ((hpG _).1 q.h).cell e1 id
        have hx2 : ∀ q : far.InC pG, q.w.cell? ⟨(x.add (k * 3)).block, (x.add (k * 3)).off + 2, none⟩ = some (.slice ab z1.length cb) := fun q => ((hpG _).1 q.h).cell e2 id
        have hy0 : ∀ q : far.InC pG, q.w.cell? (y.add (k * 3)) = some (.int .i64 k2) := fun q => ((hpG _).1 q.h).cell f0 id
        have hy1 : ∀ q : far.InC pG, q.w.cell? ⟨(y.add (k * 3)).block, (y.add (k * 3)).off + 1, none⟩ = some (.int .i64 a2) := fun q => ((hpG _).1 q.h).cell f1 id
        have hy2 : ∀ q : far.InC pG, q.w.cell? ⟨(y.add (k * 3)).block, (y.add (k * 3)).off + 2, none⟩ = some (.slice bb z2.length db) := fun q => ((hpG _).1 q.h).cell f2 id
        have iG : Nonempty (far.InC pG) := ⟨⟨wr, (hpG _).2 (Chg.refl no wr)⟩⟩
        have iT : Nonempty (far.InC pT) := ⟨⟨wr, (hpT _).2 trivial⟩⟩
        have HpT : Hid (∀ w', pT w' ↔ True) := hpT
        have HYG : Hid (pG wr.drew) := (hpG _).2 (Chg.refl no wr).drew
        clear hpG hpT e0 e1 e2 f0 f1 f2
        refine far.region_farM (fun κ w' => κ ≤ 0 → pG w') [19] (by kernel_rfl) (by kernel_rfl) (fun _ => HYG.out) ?_
        intro L e1' e2' e3'
        refine far.farO_stretch pG 19 0 0 e1' e2' e3' (by kernel_rfl) (by kernel_rfl) (fun κ w' hk1 hk2 hC => hC (by omega)) ?_
        simp only [List.take_succ_cons, List.take_zero, List.drop_succ_cons, List.drop_zero, Nat.reduceAdd]
        repeat (go_big_quiet_step (fail))
        refine wpQuiet_nil ?_
        refine far.farO_enter e1' e2' 0 rfl rfl 35 #[.agg #[.int .i64 k1, .int .i64 a1, .slice ab z1.length cb], .agg #[.int .i64 k2, .int .i64 a2, .slice bb z2.length db]] (by kernel_rfl) (by kernel_rfl) ?_
        refine (HS.out _ (Chg.refl no wr).drew).mono ?_
        rintro e w3 ⟨rfl, k3⟩
        refine ⟨_, rfl, fun h => by omega, ?_⟩
        simp only [Act.put, List.setIfInBounds_toArray, List.set_cons_succ, List.set_cons_zero, Nat.reduceAdd]
        refine far.farO_stretch pT 1 1 1 e1' e2' e3' (by kernel_rfl) (by kernel_rfl) (fun κ w' hk1 hk2 hC => (HpT.out _).2 trivial) ?_
        simp only [List.take_succ_cons, List.take_zero, List.drop_succ_cons, List.drop_zero, Nat.reduceAdd]
        repeat (go_big_quiet_step (fail))
        refine wpQuiet_nil ?_
        refine far.farO_nil ?_
        clear hx0 hx1 hx2 hy0 hy1 hy2 iG iT
        have C3 := C.then ((Chg.refl no wr).drew.then k3)
        rcases s with _ | _
        · have hc := HF3.out.2 rfl
          clear HF3
          go_wp2
          go_ret
          exact ⟨by first | rfl | (rw [hc]; rfl), C3⟩
        · have hc := HF3.out.1 rfl
          go_wp2
          go_roundw
          case rel => exact ⟨k + 1, by omega, by omega, by go_num, hc, C3⟩
          case measure => simp [intOf]; omega
      · obtain rfl : k = n' := by omega
        have hki2 : ((k : Int) < k) = False := by simp
        have hd : decide ((k : Int) < (k : Int)) = false := by simp
        have hc := hF.ends (.inr (.inl HN.out.2))
        have HC : Hid (comm (keys T) (keys U) = k) := hc
        clear hF hc
        go_wp2_with fail
        go_quiet (fail)
        go_wp2
        go_ret
        exact ⟨by rw [HC.out]; rfl, C.drewN _⟩
    · obtain rfl : k = n := by omega
      have hd : decide ((k : Int) < (k : Int)) = false := by simp
      have hc := hF.ends (.inl HN.out.1)
      have HC : Hid (comm (keys T) (keys U) = k) := hc
      clear hF hc
      go_wp2_with fail
      go_quiet (fail)
      go_wp2
      go_ret
      exact ⟨by rw [HC.out]; rfl, C.drewN _⟩

end Go.Proofs.Yteehphmedmplkaa.st
