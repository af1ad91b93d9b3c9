/- Copy and Parse of the landed code. -/
import Derived.Test.YtallblnkgmioeaaCon
namespace Go.Proofs.Ytallblnkgmioeaa.st
open Go.ChangeShapes Go.WideShapes Go.ChangeAt Go.RowKit Go.Proofs.Ytallblnkgmioeaa.hp Go.Proofs.Ytallblnkgmioeaa.bt
set_option linter.unusedVariables false
set_option linter.unusedSimpArgs false

/-- A box laid over bytes in new memory. -/
theorem bt_boxed {w w1 : World} {g c : Nat} {x : List Int} (N : NewB w (bytesOf x) (.slice (some ⟨g, 0, none⟩) ((x.length + 7) / 8) c) w1) (hx : Bin x) (h1 : 1 ≤ x.length) (h2 : x.length ≤ 127) :
    Bt (fun k => k = w1.heap.size ∨ k = g) (w1.alloc (.cells #[.int .i64 (x.length : Int), .slice (some ⟨g, 0, none⟩) ((x.length + 7) / 8) c] 53)) (.pointer (some ⟨w1.heap.size, 0, none⟩)) x ∧ (∀ k, (k = w1.heap.size ∨ k = g) → w.heap.size ≤ k) ∧ Chg no w (w1.alloc (.cells #[.int .i64 (x.length : Int), .slice (some ⟨g, 0, none⟩) ((x.length + 7) / 8) c] 53)) := by
  have hs := N.2.size
  have hlt := N.1.lt g rfl
  refine ⟨⟨_, _, _, rfl, ⟨heap_alloc_new w1 _, ?_, by omega⟩, fun k => Iff.rfl, hx, h1, h2⟩, fun k hk => by rcases hk with rfl | rfl <;> omega, N.2.alloc _⟩
  have := N.1
  rw [bytesOf_len] at this
  exact ((Chg.refl no w1).alloc _).owns (owns_base this (Nat.zero_le _)) (fun _ _ h => h)

theorem newb_at {w w1 : World} {bs : List Int} {v : Value} (N : NewB w bs v w1) (h : 1 ≤ bs.length) : ∃ g c, v = .slice (some ⟨g, 0, none⟩) bs.length c := by
  rcases N.1.2 with ⟨_, h0⟩ | ⟨g, cap, cur, rfl, _⟩
  · omega
  · exact ⟨g, cap, rfl⟩

set_option maxHeartbeats 2000000 in
theorem copy_any {F : Nat → Prop} {w : World} {v : Value} {x : List Int} (h : Bt F w v x) : Calls Try.prog 11 #[v] w fun e w' => ∃ p F', e = .returned (.pointer (some p)) ∧ Bt F' w' (.pointer (some p)) x ∧ (∀ k, F' k → w.heap.size ≤ k) ∧ Chg no w w' := by
  obtain ⟨p, g, c, rfl, o, _, hx, h1, hl⟩ := h
  obtain ⟨c0, c1, _⟩ := o.cells
  have hlen := o.len
  have hL := o.lies
  rw [← hlen] at hL c1
  have hN1 : 1 ≤ (bytesOf x).length := by omega
  have HC : Hid (∀ W, Chg no w W → Calls Try.prog 26 #[.slice (some ⟨g, 0, none⟩) (bytesOf x).length c] W fun e w' => ∃ g' c', e = .returned (.slice (some ⟨g', 0, none⟩) (bytesOf x).length c') ∧ NewB W (bytesOf x) (.slice (some ⟨g', 0, none⟩) (bytesOf x).length c') w' ∧ w'.cell? ⟨p, 0, none⟩ = some (.int .i64 (x.length : Int)) ∧ w'.cell? ⟨p, 1, none⟩ = some (.slice (some ⟨g, 0, none⟩) (bytesOf x).length c)) := fun W k => by
    refine (clone_any W _ c _ (hL.chg k (fun _ _ h => h)) (by omega)).mono ?_
    rintro e w' ⟨v', rfl, N⟩
    obtain ⟨g', c', rfl⟩ := newb_at N hN1
    exact ⟨g', c', rfl, N, (k.then N.2).cell c0 id, (k.then N.2).cell c1 id⟩
  have HB : Hid (∀ W w' g' c', Chg no w W → NewB W (bytesOf x) (.slice (some ⟨g', 0, none⟩) (bytesOf x).length c') w' → ∃ F', Bt F' (w'.alloc (.cells #[.int .i64 (x.length : Int), .slice (some ⟨g', 0, none⟩) (bytesOf x).length c'] 53)) (.pointer (some ⟨w'.heap.size, 0, none⟩)) x ∧ (∀ k, F' k → w.heap.size ≤ k) ∧ Chg no w (w'.alloc (.cells #[.int .i64 (x.length : Int), .slice (some ⟨g', 0, none⟩) (bytesOf x).length c'] 53))) := fun W w' g' c' k N => by
    rw [hlen] at N ⊢
    obtain ⟨q1, q2, q3⟩ := bt_boxed N hx h1 hl
    have := k.size
    exact ⟨_, q1, fun j hj => by have := q2 j hj; omega, k.then q3⟩
  obtain ⟨N, hN⟩ : ∃ N, (bytesOf x).length = N := ⟨_, rfl⟩
  obtain ⟨n, hn⟩ : ∃ n, x.length = n := ⟨_, rfl⟩
  simp only [hN, hn] at c0 c1 HC HB
  clear o hL hlen hN1 hx h1 hl hN hn
  go_enter Try.func11, Try.ntmps11
  go_wp2_with fail
  go_region_with (go_at_call 26; refine (HC.out _ ?_).mono ?_; (first | exact ((Chg.refl no w).drew)); rintro e w5 ⟨g5, c5, rfl, N5, d0, d1⟩)
  all_goals go_wp2
  all_goals go_ret
  all_goals
    obtain ⟨F', q⟩ := HB.out _ _ _ _ ((Chg.refl no w).drew) N5
    exact ⟨_, F', rfl, q⟩

end Go.Proofs.Ytallblnkgmioeaa.st
