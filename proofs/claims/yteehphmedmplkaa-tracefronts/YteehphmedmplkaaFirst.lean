/- The contract of first: what the chapter's examples fix. -/
import Derived.Test.YteehphmedmplkaaRecT
namespace Go.Proofs.Yteehphmedmplkaa.st
open Go.ChangeShapes Go.WideShapes Go.ChangeAt Go.RowKit Go.Proofs.Yteehphmedmplkaa.hp Go.Proofs.Yteehphmedmplkaa.md
set_option linter.unusedVariables false

theorem tell_at {T U : List Rec} (h : T.map Rec.tell = U.map Rec.tell) (i : Nat) : (T.getD i dR).tell = (U.getD i dR).tell := by
  have e1 : ∀ (l : List Rec), (l.getD i dR).tell = (l.map Rec.tell).getD i dR.tell := by
    intro l
    simp only [List.getD_eq_getElem?_getD, List.getElem?_map]
    cases l[i]? <;> rfl
  rw [e1, e1, h]

theorem tell_len {T U : List Rec} (h : T.map Rec.tell = U.map Rec.tell) : T.length = U.length := by
  have := congrArg List.length h
  simpa using this

set_option maxHeartbeats 2000000 in
theorem first_any (w : World) : Calls Try.prog 8 #[] w fun e w' => e = .returned (.bool true) ∧ Chg no w w' := by
  go_enter Try.func8, Try.ntmps8
  go_wp2_with fail
  refine (made_in 2 1 (by omega) (by omega) (by omega) (by omega)).mono ?_
  rintro e w1 ⟨r, p, rfl, s1, k1⟩
  go_wp2_with fail
  have k2 : Chg no w1 (w1.alloc (.cells #[.int .u8 7] 5)) := (Chg.refl no w1).alloc _
  have s2 := s1.same k2
  refine (twrite_ok (J := fun k => k = w1.heap.size) s2 (by decide) (by decide) rfl (by decide) 0 (by decide) (some ⟨w1.heap.size, 0, none⟩) 1 [7] rfl (lies_new [.int .u8 7] 5) (fun k hk => by have := s1.lt k; subst hk; simp)).mono ?_
  rintro e w3 ⟨v3, u3, rfl, s3, k3⟩
  go_wp2_with fail
  refine (tsync_ok s3 (by show 1 ≤ 100000000; omega) (by show 0 ≤ 100000000000; omega) rfl (by simp)).mono ?_
  rintro e w4 ⟨v4, rfl, s4, k4⟩
  go_wp2_with fail
  refine (trace_any s4 (by simp) (by intro x hx; simp at hx; rcases hx with rfl | rfl <;> simp)).mono ?_
  rintro e w5 ⟨g, rfl, hg, L5⟩
  obtain ⟨T', tr, hT, k5⟩ := L5.tra rfl hg
  have hl := tell_len hT
  obtain ⟨x0, ab, cb, hx0, _, hv0, a0, a1, a2, a3⟩ := tr.at 0 (by rw [hl]; simp)
  obtain ⟨x1, bb, db, hx1, _, hv1, b0, b1, b2, b3⟩ := tr.at 1 (by rw [hl]; simp)
  have ht0 := tell_at hT 0
  have ht1 := tell_at hT 1
  cases hx0
  cases hx1
  obtain ⟨⟨ka, aa, va, za⟩, hX⟩ : ∃ X, T'.getD 0 dR = X := ⟨_, rfl⟩
  obtain ⟨⟨kb, ba, vb, zb⟩, hY⟩ : ∃ X, T'.getD 1 dR = X := ⟨_, rfl⟩
  rw [hX] at a0 a1 a2 a3 ht0
  rw [hY] at b0 b1 b2 b3 ht1
  simp [Rec.tell] at ht0 ht1
  obtain ⟨rfl, rfl, rfl⟩ := ht0
  obtain ⟨rfl, rfl, rfl⟩ := ht1
  have s5 := s4.same k5
  have M5 := mark_any s5
  clear tr hT hX hY hl hv0 hv1 L5
  simp [Addr.add_lit] at a0 a1 a2 a3 b0 b1 b2 b3 M5
  go_wp2_with fail
  refine M5.mono ?_
  rintro e w6 ⟨rfl, rfl⟩
  go_wp2_with fail
  have k6 : Chg no w6 (w6.alloc (.cells #[.int .u8 7] 5)) := (Chg.refl no w6).alloc _
  refine (bytes_same (zs := [7]) (a3.chg k6 (fun _ _ h => h)) (lies_new [.int .u8 7] 5)).mono ?_
  rintro e w7 ⟨rfl, rfl⟩
  have hgl : g < w6.heap.size := World.block_lt_of_cell? w6 _ a0
  go_wp2
  go_ret
  refine ⟨rfl, ?_⟩
  have z2 := k2.size
  have z1 := k1.size
  have z3 := k3.size
  have c3 := (k1.then k2).trans k3 (fun k hk => .inr hk.1)
  have c4 := c3.trans k4 (fun k hk => .inr (by rcases hk with hk | hk <;> omega))
  exact (c4.then k5).then k6

end Go.Proofs.Yteehphmedmplkaa.st
