/- Contracts of SameOps, Plain. -/
import Derived.Test.YteehphmedmplkaaCompR
namespace Go.Proofs.Yteehphmedmplkaa.st
open Go.ChangeShapes Go.WideShapes Go.ChangeAt Go.RowKit Go.Proofs.Yteehphmedmplkaa.hp Go.Proofs.Yteehphmedmplkaa.md
set_option linter.unusedVariables false

theorem sameOps_any {J K : Nat → Prop} {w : World} {a b : Option Addr} {n c n' c' : Nat} {T U : List Rec} (hT : Tra J w (.slice a n c) T) (hU : Tra K w (.slice b n' c') U) (hb : n ≤ 1000000) (hb' : n' ≤ 1000000) :
    Calls Try.prog 31 #[.slice a n c, .slice b n' c'] w fun e w' => e = .returned (.bool (decide (keys T = keys U))) ∧ Chg no w w' := by
  have hn := hT.len
  have hn' := hU.len
  have RC := rcommon_ops hT hU hb hb'
  by_cases hnn : n = n'
  · have hk : decide (keys T = keys U) = decide (((comm (keys T) (keys U) : Nat) : Int) = (n : Int)) := by
      rw [keys_eq (by omega), decide_eq_decide]
      omega
    obtain ⟨q, hq⟩ : ∃ q, comm (keys T) (keys U) = q := ⟨_, rfl⟩
    rw [hq] at RC hk
    rw [hk]
    subst hnn
    clear hT hU hk hq hn hn'
    go_enter Try.func31, Try.ntmps31
    go_wp2_with fail
    refine RC.mono ?_
    rintro e w1 ⟨rfl, k1⟩
    go_wp2
    go_ret
    exact ⟨rfl, k1⟩
  · rw [keys_ne (by omega)]
    have hni : ¬ (n : Int) = n' := by omega
    clear hT hU RC
    go_enter Try.func31, Try.ntmps31
    go_wp2
    go_ret
    exact ⟨ret_bool (by simp), Chg.refl no w⟩

theorem info64 : (Try.prog.info? 64).map (fun i => (i.zero, i.size, i.bytes)) = some (some (.agg #[.int .i64 0, .int .i64 0, .slice none 0 0]), 3, 40) := by kernel_rfl

set_option maxRecDepth 100000 in
set_option maxHeartbeats 8000000 in
theorem plain_any {J : Nat → Prop} {w : World} {a : Option Addr} {n c : Nat} {T : List Rec} (hT : Tra J w (.slice a n c) T) (hb : n ≤ 1000000) :
    Calls Try.prog 32 #[.slice a n c] w fun e w' => ∃ v, e = .returned v ∧ w'.ownsRow w.heap.size 64 3 v n (recs T) ∧ Chg no w w' := by
  have HN : Hid (n = T.length) := hT.len
  have HT : Hid (Tra J w (.slice a n c) T) := hT
  obtain ⟨i0, hi, hz0, hz1, hz2⟩ := info_parts info64
  clear hT
  go_enter Try.func32, Try.ntmps32
  go_wp2_with fail
  go_loopw [3, 4] (fun v i wr => ∃ k : Nat, k ≤ n ∧ i = .int .i64 (k : Int) ∧ wr.ownsRow w.heap.size 64 3 v k (recs (T.take k)) ∧ Chg no w wr) (fun _ i _ => n - (intOf i).toNat)
  case atStart => exact ⟨0, by omega, rfl, World.ownsRow_nil _ _ _ _, Chg.refl no _⟩
  case round =>
    obtain ⟨k, hk, rfl, hown, C⟩ := hrel
    obtain ⟨av, cv, rfl⟩ := owns_shape hown
    by_cases hkn : k < n
    · have hki : (k : Int) < n := by omega
      have hk1 : k < T.length := by rw [← HN.out]; omega
      obtain ⟨x, ab, cb, rfl, hx, hv, e0, e1, e2, l1⟩ := (HT.out.same C).at k hk1
      have HTk : Hid (recs (T.take (k + 1)) = recs (T.take k) ++ [.int .i64 (T.getD k dR).kind, .int .i64 (T.getD k dR).addr, (T.getD k dR).v]) := by
        show recs (T.take (k + 1)) = _
        rw [← recs_append, List.take_add_one]
        congr 2
        rw [List.getD_eq_getElem?_getD, List.getElem?_eq_getElem hk1]
        rfl
      obtain ⟨⟨k1, a1, v1, z1⟩, hX⟩ : ∃ X, T.getD k dR = X := ⟨_, rfl⟩
      rw [hX] at e0 e1 e2 hv HTk
      simp only at e0 e1 e2 hv HTk
      subst hv
      have HO : Hid (∀ w', Chg no wr w' → w'.ownsRow w.heap.size 64 3 (.slice av k cv) k (recs (T.take k))) := fun w' c => c.owns hown (fun _ _ h => h)
      have H1 : ∀ u ∈ ([.int .i64 k1, .int .i64 a1, .slice ab z1.length cb] : List Value), u.oneCell' = true := by
        intro u hu
        simp at hu
        rcases hu with rfl | rfl | rfl <;> rfl
      have HC : Hid (Chg no w wr) := C
      have HB : Hid (∀ k', (Value.slice av k cv).ownBlock = some k' → w.heap.size ≤ k') := fun k' h => (hown.lt k' h).1
      have hzw := C.size
      clear hX l1 hown C hk1
      go_wp2_with fail
      go_region_law (refine step_append_own rfl (.tmp 11) (.tmp 28) 51 rfl w.heap.size 64 i0 (.agg #[.int .i64 0, .int .i64 0, .slice none 0 0]) 3 40 Try.underlying51 hi hz0 hz1 hz2 rfl (by decide) (.slice av k cv) k (recs (T.take k)) (by simp [Act.eval]) (HO.out _ ((Chg.refl no wr).alloc _).drew) ⟨wr.heap.size, 0, none⟩ 1 1 [.int .i64 k1, .int .i64 a1, .slice ab z1.length cb] (by simp [Act.eval]) rfl (news_at (w := wr) (xs := [.int .i64 k1, .int .i64 a1, .slice ab z1.length cb]) (t := 64)) H1 (by unfold maxLen; omega) (by omega) (by simp; omega) ?_; intro v5 w5 o5 g5; obtain ⟨a5, c5', rfl⟩ := owns_shape o5)
      all_goals go_wp2
      all_goals go_roundw
      all_goals first
        | exact ⟨k + 1, by omega, by go_num, by rw [HTk.out]; exact o5, (HC.out.then ((Chg.refl no wr).alloc _).drew).grown g5 (fun k' h => .inr (HB.out k' h))⟩
        | (simp [intOf]; omega)
    · obtain rfl : k = n := by omega
      have hki : (k : Int) ≤ k := by omega
      have HE : Hid (wr.ownsRow w.heap.size 64 3 (.slice av k cv) k (recs T)) := by
        rw [HN.out, List.take_of_length_le (Nat.le_refl _)] at hown
        rw [HN.out]; exact hown
      clear hown
      go_wp2
      go_ret
      exact ⟨_, rfl, HE.out, C⟩

theorem plain_tra {J : Nat → Prop} {w : World} {a : Option Addr} {n c : Nat} {T : List Rec} (hT : Tra J w (.slice a n c) T) (hb : n ≤ 1000000) :
    Calls Try.prog 32 #[.slice a n c] w fun e w' => ∃ x c', e = .returned (.slice x n c') ∧ Tra (fun k => J k ∨ w.heap.size ≤ k) w' (.slice x n c') T ∧ Chg no w w' := by
  refine (plain_any hT hb).mono ?_
  rintro e w' ⟨v, rfl, o, k⟩
  obtain ⟨x, c', rfl⟩ := owns_shape o
  have hl := hT.len
  refine ⟨x, c', rfl, ?_, k⟩
  refine Tra.of_owns (by rw [← hl]; exact o) (fun k hk => .inr (o.lt k hk).1) (fun y hy => ?_)
  obtain ⟨i, hi, rfl⟩ := List.mem_iff_getElem.1 hy
  obtain ⟨_, ab, cb, _, _, hv, _, _, _, l⟩ := (hT.same k).at i hi
  have e : T.getD i dR = T[i] := by rw [List.getD_eq_getElem?_getD, List.getElem?_eq_getElem hi]; rfl
  rw [e] at hv l
  rw [hv]
  exact l.mono (fun k hk => .inl hk)

end Go.Proofs.Yteehphmedmplkaa.st
