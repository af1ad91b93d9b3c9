/- Contracts of Clone, All, New and of the document's NewMap. -/
import Derived.Test.YtocbmjkbbbmncaaSet
import Derived.Deep.OwnRows
namespace Go.Proofs.Ytocbmjkbbbmncaa.st
open Go.ChangeShapes Go.WideShapes Go.ChangeAt Go.RowKit Go.Proofs.Ytocbmjkbbbmncaa.hp
set_option linter.unusedVariables false

theorem info_parts' {e : TypeId} {z : Value} {s b : Nat} (h : (Try.prog.info? e).map (fun i => (i.zero, i.size, i.bytes)) = some (some z, s, b)) : ∃ i, Try.prog.info? e = some i ∧ i.zero = some z ∧ i.size = s ∧ i.bytes = b := by
  obtain ⟨i, h1, h2⟩ := Option.map_eq_some_iff.1 h
  simp only [Prod.mk.injEq] at h2
  exact ⟨i, h1, h2.1, h2.2.1, h2.2.2⟩

/-- A copy in new memory. -/
theorem clone_any {J : Nat → Prop} (w : World) (v : Value) (ps : List (Int × Int)) (h : Lie J w v ps.length (ps.flatMap f2)) (hl : ps.length ≤ 100000) :
    Calls Try.prog 27 #[v] w fun e w' => ∃ v', e = .returned v' ∧ NewR 33 2 f2 w ps v' w' := by
  obtain ⟨i0, hi, hz0, hz1, hz2⟩ := info_parts' info33
  have hmade := World.ownsRow_made (base := w.heap.size) (e := 33) (size := 2) w #[] 0 (Nat.le_refl _) (by unfold maxLen; omega) rfl
  rcases h with ⟨rfl, h0, _⟩ | ⟨x, cap, rfl, hx, hc⟩
  · obtain rfl : ps = [] := List.eq_nil_of_length_eq_zero h0
    clear hmade
    have hnil := Lib.run_eql_slice_nil (P := Try.prog) w 22 33 none 0 0 0 0 Try.underlying22
    go_enter Try.func27, Try.ntmps27
    go_wp2
    go_ret
    exact ⟨_, rfl, NewR.nil (Chg.refl no w)⟩
  · have hfl := flat_length len2 ps
    obtain ⟨n, hn⟩ : ∃ n, ps.length = n := ⟨_, rfl⟩
    have HN : Hid (ps.length = n) := hn
    rw [hn] at hfl hl ⊢
    obtain ⟨xs, hxs⟩ : ∃ xs, ps.flatMap f2 = xs := ⟨_, rfl⟩
    have HX : Hid (ps.flatMap f2 = xs) := hxs
    have h1 : ∀ u ∈ xs, u.oneCell' = true := by rw [← hxs]; exact one2 ps
    rw [hxs] at hc hfl
    clear hn hxs hx
    have hnil := Lib.run_eql_slice_nil (P := Try.prog) w 22 33 (some x) n cap 0 0 Try.underlying22
    go_enter Try.func27, Try.ntmps27
    go_wp2_with (at_builtin; refine wpList_append_own _ rfl _ _ 22 rfl w.heap.size 33 i0 (nv 0 0) 2 16 Try.underlying22 hi hz0 hz1 hz2 rfl (by decide) _ 0 [] rfl hmade x n cap xs rfl ?c1 ?c2 ?c3 ?c4 ?c5 ?c6 ?_)
    case c1 => exact hfl
    case c2 => exact fun j u hu => ((Chg.refl no w).alloc _).cell (hc j u hu) id
    case c3 => exact h1
    case c4 => unfold maxLen; omega
    case c5 => omega
    case c6 => simp
    intro v' w1 hown hg _
    go_wp2
    go_ret
    refine ⟨v', rfl, ?_, ((Chg.refl no w).alloc _).grown hg ?_⟩
    · rw [HN.out, HX.out]
      simpa using hown
    · intro k hk
      simp [Value.ownBlock] at hk
      omega

theorem all_any {p : Nat} {pv cv : Value} {ps : List (Int × Int)} {ch : List Bool} {w : World} (h : Mp 63 33 p pv cv ps ch w) (hl : ps.length ≤ 100000) :
    Calls Try.prog 23 #[pt p] w fun e w' => ∃ v', e = .returned v' ∧ NewR 33 2 f2 w ps v' w' := by
  obtain ⟨c0, _, _, hp⟩ := h.cells
  obtain ⟨⟨a, c, rfl⟩, _⟩ := h.shape
  have HC := clone_any w _ ps (Lie.of_owns (J := fun _ => True) h.row (fun _ _ => trivial)) hl
  clear h
  go_enter Try.func23, Try.ntmps23
  go_wp2_with fail
  refine HC.mono ?_
  rintro e w1 ⟨v1, rfl, N1⟩
  go_wp2
  go_ret
  exact ⟨_, rfl, N1⟩

/-- Marks, just made. -/
theorem row_made (w : World) (n : Nat) (hm : n ≤ maxLen) : (w.alloc (.cells (madeCells #[.bool false] n) 4)).ownsRow w.heap.size 4 1 (.slice (some ⟨w.heap.size, 0, none⟩) n n) n ((List.replicate n false).map Value.bool) := by
  refine ⟨by simp, .inr ⟨_, n, _, rfl, Nat.le_refl _, heap_alloc_new w _, Nat.le_refl _, hm, by simp [madeCells], ?_⟩⟩
  rw [toList_madeCells_one]
  simp

/-- A map, just made. -/
def Made (T E : TypeId) (w : World) (ps : List (Int × Int)) (v : Value) (w' : World) : Prop :=
  ∃ p pv cv, v = pt p ∧ Mp T E p pv cv ps (List.replicate ps.length false) w' ∧ Chg no w w' ∧ ∀ k, Ft p pv cv k → w.heap.size ≤ k

/-- Places first, then marks. -/
theorem made_a {T E : TypeId} {w w0 w1 : World} {ps : List (Int × Int)} {pv : Value} (k0 : Chg no w w0) (h : NewR E 2 f2 w0 ps pv w1) (hl : ps.length ≤ 100000) :
    Made T E w ps (pt (w1.heap.size + 1)) ((w1.alloc (.cells (madeCells #[.bool false] ps.length) 4)).alloc (.cells #[pv, .slice (some ⟨w1.heap.size, 0, none⟩) ps.length ps.length] T)) := by
  have s0 := k0.size
  have s1 := h.2.size
  have K : Chg no w1 ((w1.alloc (.cells (madeCells #[.bool false] ps.length) 4)).alloc (.cells #[pv, .slice (some ⟨w1.heap.size, 0, none⟩) ps.length ps.length] T)) := ((Chg.refl no w1).alloc _).alloc _
  have hb := heap_alloc_new (w1.alloc (.cells (madeCells #[.bool false] ps.length) 4)) (.cells #[pv, .slice (some ⟨w1.heap.size, 0, none⟩) ps.length ps.length] T)
  have e1 : (w1.alloc (.cells (madeCells #[.bool false] ps.length) 4)).heap.size = w1.heap.size + 1 := by simp
  rw [e1] at hb
  have hr := row_made w1 ps.length (by unfold maxLen; omega)
  refine ⟨_, pv, _, rfl, ⟨hb, owns_base (K.owns h.1 (fun _ _ h => h)) (Nat.zero_le _), owns_base (((Chg.refl no _).alloc _).owns hr (fun _ _ h => h)) (Nat.zero_le _), ?_, ?_, ?_⟩, (k0.then h.2).then K, ?_⟩
  · intro e
    have := (h.1.lt _ e).2
    omega
  · intro e
    simp [Value.ownBlock] at e
  · intro k hk e
    have := (h.1.lt _ hk).2
    simp [Value.ownBlock] at e
    omega
  · rintro k (e | e | e)
    · omega
    · have := (h.1.lt _ e).1
      omega
    · simp [Value.ownBlock] at e
      omega

/-- Marks first, then places. -/
theorem made_b {T E : TypeId} {w w0 w1 w2 : World} {ps : List (Int × Int)} {pv : Value} (k0 : Chg no w w0) (k1 : Chg no (w0.alloc (.cells (madeCells #[.bool false] ps.length) 4)) w1) (h : NewR E 2 f2 w1 ps pv w2) (hl : ps.length ≤ 100000) :
    Made T E w ps (pt w2.heap.size) (w2.alloc (.cells #[pv, .slice (some ⟨w0.heap.size, 0, none⟩) ps.length ps.length] T)) := by
  have s0 := k0.size
  have s1 := k1.size
  have s2 := h.2.size
  have e1 : (w0.alloc (.cells (madeCells #[.bool false] ps.length) 4)).heap.size = w0.heap.size + 1 := by simp
  have hr := row_made w0 ps.length (by unfold maxLen; omega)
  have K : Chg no w2 (w2.alloc (.cells #[pv, .slice (some ⟨w0.heap.size, 0, none⟩) ps.length ps.length] T)) := (Chg.refl no w2).alloc _
  refine ⟨_, pv, _, rfl, ⟨heap_alloc_new _ _, owns_base (K.owns h.1 (fun _ _ h => h)) (Nat.zero_le _), owns_base (((k1.then h.2).then K).owns hr (fun _ _ h => h)) (Nat.zero_le _), ?_, ?_, ?_⟩, ((((k0.alloc _).then k1).then h.2).then K), ?_⟩
  · intro e
    have := (h.1.lt _ e).2
    omega
  · intro e
    simp [Value.ownBlock] at e
    omega
  · intro k hk e
    have := (h.1.lt _ hk).1
    simp [Value.ownBlock] at e
    omega
  · rintro k (e | e | e)
    · omega
    · have := (h.1.lt _ e).1
      omega
    · simp [Value.ownBlock] at e
      omega

set_option maxHeartbeats 1000000 in
theorem new_any {J : Nat → Prop} (w : World) (v : Value) (ps : List (Int × Int)) (h : Lie J w v ps.length (ps.flatMap f2)) (hl : ps.length ≤ 100000) :
    Calls Try.prog 9 #[v] w fun e w' => ∃ r, e = .returned r ∧ Made 63 33 w ps r w' := by
  obtain ⟨a, c, rfl⟩ := h.slice
  have HC : Hid (∀ w', Chg no w w' → Calls Try.prog 27 #[.slice a ps.length c] w' fun e w'' => ∃ v', e = .returned v' ∧ NewR 33 2 f2 w' ps v' w'') := fun w' k => clone_any w' _ ps (h.same k) hl
  have HA : Hid (∀ w0 w1 pv, Chg no w w0 → NewR 33 2 f2 w0 ps pv w1 → Made 63 33 w ps (pt (w1.heap.size + 1)) ((w1.alloc (.cells (madeCells #[.bool false] ps.length) 4)).alloc (.cells #[pv, .slice (some ⟨w1.heap.size, 0, none⟩) ps.length ps.length] 63))) := fun w0 w1 pv k0 h => made_a k0 h hl
  have HB : Hid (∀ w0 w1 w2 pv, Chg no w w0 → Chg no (w0.alloc (.cells (madeCells #[.bool false] ps.length) 4)) w1 → NewR 33 2 f2 w1 ps pv w2 → Made 63 33 w ps (pt w2.heap.size) (w2.alloc (.cells #[pv, .slice (some ⟨w0.heap.size, 0, none⟩) ps.length ps.length] 63))) := fun w0 w1 w2 pv k0 k1 h => made_b k0 k1 h hl
  have HS : Hid (∀ w0 w1 pv, NewR 33 2 f2 w0 ps pv w1 → ∃ a c, pv = .slice a ps.length c) := fun w0 w1 pv h => h.shape
  obtain ⟨n, hn⟩ : ∃ n, ps.length = n := ⟨_, rfl⟩
  rw [hn] at HC HA HB HS hl ⊢
  have hmake := fun w => run_make_row' (P := Try.prog) 47 4 (.bool false) 1 Try.underlying47 info4 rfl .i64 .i64 n (by omega) (by omega) w
  clear h hn hl
  go_enter Try.func9, Try.ntmps9
  go_wp2_with fail
  go_region_with (go_at_call 27; refine (HC.out _ ?_).mono ?_; (first | exact ((Chg.refl no w).drew) | exact ((Chg.refl no w).alloc _).drew); rintro e w5 ⟨v5, rfl, N5⟩; obtain ⟨a5, c5, rfl⟩ := HS.out _ _ _ N5)
  all_goals go_wp2
  all_goals go_ret
  · exact ⟨_, rfl, HA.out _ _ _ ((Chg.refl no w).drew) N5⟩
  · exact ⟨_, rfl, HB.out _ _ _ _ (Chg.refl no w) ((Chg.refl no _).drew) N5⟩

end Go.Proofs.Ytocbmjkbbbmncaa.st
