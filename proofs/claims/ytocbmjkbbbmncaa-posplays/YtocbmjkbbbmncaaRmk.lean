/- Contract of the document's NewMap. -/
import Derived.Test.YtocbmjkbbbmncaaMak
namespace Go.Proofs.Ytocbmjkbbbmncaa.st
open Go.ChangeShapes Go.WideShapes Go.ChangeAt Go.RowKit Go.Proofs.Ytocbmjkbbbmncaa.hp
set_option linter.unusedVariables false

/-- append of nil to a row of the call's own, as one step of a region that draws. -/
theorem step_append_none {P : Program} {ops : Array Oper} {o : Oper} {a : Act} {w : World} {K : Act → World → Prop} {Q : Exit → Act → World → Prop} {E : Prop} (hg : o.guard = none) (s x : Operand) (t : TypeId)
    (ho : o.op = .call { callee := .builtin .append, args := #[s, x], argTypes := #[t, t] })
    (base : Nat) (e : TypeId) (i : TypeInfo) (size : Nat) (ht : P.underlying t = some (.slice e)) (hi : P.info? e = some i)
    (v : Value) (n : Nat) (xs : List Value) (hs : a.eval s = v) (hown : w.ownsRow base e size v n xs) (hx : a.eval x = .slice none 0 0)
    (h : K (a.put o.dst v) w) : if Region.wanted o (yielded ops a.tmps) = true then Oper.wp P o a w K Q else E := by
  have hw : Region.wanted o (yielded ops a.tmps) = true := by simp [Region.wanted, hg]
  rw [if_pos hw]
  have hrun := run_append_owned_none (P := P) (w := w) base t o.type e i size ht hi v n xs hown
  unfold Oper.wp
  simp [execOp, ho, resolve, invoke, builtin, hs, hx, hrun, Result.andThen]
  exact h

/-- The marks were made ahead of the append. -/
theorem made_app {T E : TypeId} {w W W3 : World} {B C : Nat} {ps : List (Int × Int)} {pv : Value} (hB : w.heap.size ≤ B) (hC : w.heap.size ≤ C) (hBC : B ≠ C) (hBW : B < W.heap.size) (kW : Chg no w W)
    (mk : W.ownsRow 0 4 1 (.slice (some ⟨C, 0, none⟩) ps.length ps.length) ps.length ((List.replicate ps.length false).map Value.bool)) (own : W3.ownsRow 0 E 2 pv ps.length (ps.flatMap f2)) (g : W.grownBy W3 (some B)) (pl : ∀ k, pv.ownBlock = some k → k = B ∨ W.heap.size ≤ k) :
    Made T E w ps (pt W3.heap.size) (W3.alloc (.cells #[pv, .slice (some ⟨C, 0, none⟩) ps.length ps.length] T)) := by
  have s0 := kW.size
  have s1 := g.size
  have hCW : C < W.heap.size := (mk.lt C rfl).2
  have mk3 := mk.kept g (.inr (by simp [Value.ownBlock]; omega))
  have K : Chg no W3 (W3.alloc (.cells #[pv, .slice (some ⟨C, 0, none⟩) ps.length ps.length] T)) := (Chg.refl no W3).alloc _
  refine ⟨_, pv, _, rfl, ⟨heap_alloc_new _ _, K.owns own (fun _ _ h => h), K.owns mk3 (fun _ _ h => h), ?_, ?_, ?_⟩, (kW.grown g (fun k hk => .inr (by cases hk; exact hB))).then K, ?_⟩
  · intro e
    have := (own.lt _ e).2
    omega
  · intro e
    simp [Value.ownBlock] at e
    omega
  · intro k hk e
    simp [Value.ownBlock] at e
    rcases pl k hk with e1 | e1 <;> omega
  · rintro k (e | e | e)
    · omega
    · rcases pl k e with e1 | e1 <;> omega
    · simp [Value.ownBlock] at e
      omega

/-- .. behind it. -/
theorem new_app {E : TypeId} {w W W3 : World} {B : Nat} {ps : List (Int × Int)} {pv : Value} (hB : w.heap.size ≤ B) (kW : Chg no w W) (own : W3.ownsRow 0 E 2 pv ps.length (ps.flatMap f2)) (g : W.grownBy W3 (some B)) (pl : ∀ k, pv.ownBlock = some k → k = B ∨ W.heap.size ≤ k) : NewR E 2 f2 w ps pv W3 := by
  have s0 := kW.size
  refine ⟨⟨own.1, ?_⟩, kW.grown g (fun k hk => .inr (by cases hk; exact hB))⟩
  rcases own.2 with hh | ⟨b, cap, cur, e, _, rest⟩
  · exact .inl hh
  · exact .inr ⟨b, cap, cur, e, by rcases pl b (by rw [e]; rfl) with e1 | e1 <;> omega, rest⟩

theorem made_drew {T E : TypeId} {w w' : World} {ps : List (Int × Int)} {v : Value} (h : Made T E w ps v w') : Made T E w ps v w'.drew := by
  obtain ⟨p, pv, cv, h1, h2, h3, h4⟩ := h
  exact ⟨p, pv, cv, h1, h2.same (Chg.refl no w').drew, h3.drew, h4⟩

theorem grown_refl (w : World) (r : Option Nat) : w.grownBy w r := ⟨rfl, rfl, rfl, Nat.le_refl _, fun _ _ _ => rfl⟩

set_option maxHeartbeats 2000000 in
theorem rnew_any {J : Nat → Prop} (w : World) (v : Value) (ps : List (Int × Int)) (h : Lie J w v ps.length (ps.flatMap f2)) (hl : ps.length ≤ 100000) :
    Calls Try.prog 10 #[v] w fun e w' => ∃ r, e = .returned r ∧ Made 49 39 w ps r w' := by
  obtain ⟨i0, hi, hz0, hz1, hz2⟩ := info_parts' info39
  have HA : Hid (∀ (w0 w1 : World) (pv : Value), Chg no w w0 → NewR 39 2 f2 w0 ps pv w1 → Made 49 39 w ps (pt (w1.heap.size + 1)) ((w1.alloc (.cells (madeCells #[.bool false] ps.length) 4)).alloc (.cells #[pv, .slice (some ⟨w1.heap.size, 0, none⟩) ps.length ps.length] 49))) := fun w0 w1 pv k0 h => made_a k0 h hl
  have HO : Hid (∀ w1 : World, ∀ b, b = w1.heap.size → ∀ W, Chg no (w1.alloc (.cells #[] 39)) W → W.ownsRow 0 39 2 (.slice (some ⟨b, 0, none⟩) 0 0) 0 []) := fun w1 b hb W k => by
    subst hb
    exact k.owns (World.ownsRow_made (base := 0) (e := 39) (size := 2) w1 #[] 0 (Nat.zero_le _) (by unfold maxLen; omega) rfl) (fun _ _ h => h)
  have HR : Hid (∀ w1 W : World, Chg no (w1.alloc (.cells (madeCells #[.bool false] ps.length) 4)) W → W.ownsRow 0 4 1 (.slice (some ⟨w1.heap.size, 0, none⟩) ps.length ps.length) ps.length ((List.replicate ps.length false).map Value.bool)) := fun w1 W k => k.owns (owns_base (row_made w1 ps.length (by unfold maxLen; omega)) (Nat.zero_le _)) (fun _ _ h => h)
  have HP : Hid (∀ (w W W3 : World) (B C : Nat) (pv : Value), w.heap.size ≤ B → w.heap.size ≤ C → B ≠ C → B < W.heap.size → Chg no w W → W.ownsRow 0 4 1 (.slice (some ⟨C, 0, none⟩) ps.length ps.length) ps.length ((List.replicate ps.length false).map Value.bool) → W3.ownsRow 0 39 2 pv ps.length (ps.flatMap f2) → W.grownBy W3 (some B) → (∀ k, pv.ownBlock = some k → k = B ∨ W.heap.size ≤ k) → Made 49 39 w ps (pt W3.heap.size) (W3.alloc (.cells #[pv, .slice (some ⟨C, 0, none⟩) ps.length ps.length] 49))) := fun w W W3 B C pv a b c d e f g h i => made_app a b c d e f g h i
  have HQ : Hid (∀ (w W W3 : World) (B : Nat) (pv : Value), w.heap.size ≤ B → Chg no w W → W3.ownsRow 0 39 2 pv ps.length (ps.flatMap f2) → W.grownBy W3 (some B) → (∀ k, pv.ownBlock = some k → k = B ∨ W.heap.size ≤ k) → NewR 39 2 f2 w ps pv W3) := fun w W W3 B pv a b c d e => new_app a b c d e
  have hfl := flat_length len2 ps
  have h1 : ∀ u ∈ ps.flatMap f2, u.oneCell' = true := one2 ps
  rcases h with ⟨rfl, h0, _⟩ | ⟨x, cap, rfl, hx, hc⟩
  · obtain rfl : ps = [] := List.eq_nil_of_length_eq_zero h0
    have hmake : ∀ w, (Instr.makeSlice 47 (.int .i64 0) (.int .i64 0)).run Try.prog w = .ok (.slice (some ⟨w.heap.size, 0, none⟩) 0 0) (w.alloc (.cells (madeCells #[.bool false] 0) 4)) := fun w => run_make_row' (P := Try.prog) 47 4 (.bool false) 1 Try.underlying47 info4 rfl .i64 .i64 0 (by omega) (by omega) w
    clear hfl h1 hl
    go_enter Try.func10, Try.ntmps10
    go_wp2_with fail
    go_region_law (first
      | (refine step_append_none rfl (.tmp 3) (.tmp 4) 30 rfl 0 39 i0 2 Try.underlying30 hi (.slice (some ⟨w.heap.size, 0, none⟩) 0 0) 0 [] (by simp [Act.eval]) (HO.out w _ rfl _ (by first | exact (Chg.refl no _).drew | exact ((Chg.refl no _).alloc _).drew)) (by simp [Act.eval]) ?_)
      | (refine step_append_none rfl (.tmp 3) (.tmp 4) 30 rfl 0 39 i0 2 Try.underlying30 hi (.slice (some ⟨w.heap.size + 1, 0, none⟩) 0 0) 0 [] (by simp [Act.eval]) (HO.out (w.alloc (.cells (madeCells #[.bool false] 0) 4)) _ (by simp) _ (Chg.refl no _).drew) (by simp [Act.eval]) ?_))
    all_goals go_wp2
    all_goals go_ret
    all_goals refine ⟨_, rfl, ?_⟩
    · have o5 := HO.out w _ rfl (w.alloc (.cells #[] 39)) (Chg.refl no _)
      have X := HA.out w _ _ (Chg.refl no w) (HQ.out w _ _ w.heap.size _ (Nat.le_refl _) ((Chg.refl no w).alloc _) o5 (grown_refl _ _) (fun k hk => .inl (Option.some.inj hk).symm))
      have Y := made_drew X
      simp only [World.size_alloc, List.length_nil] at Y
      exact Y
    · have e1 : (w.alloc (.cells #[] 39)).heap.size = w.heap.size + 1 := by simp
      have o5 := HO.out w _ rfl ((w.alloc (.cells #[] 39)).alloc (.cells (madeCells #[.bool false] 0) 4)) ((Chg.refl no _).alloc _)
      have hr := HR.out (w.alloc (.cells #[] 39)) _ (Chg.refl no _)
      rw [e1] at hr
      have Y := made_drew (HP.out w _ _ w.heap.size (w.heap.size + 1) _ (Nat.le_refl _) (by omega) (by omega) (by simp; omega) (((Chg.refl no w).alloc _).alloc _) hr o5 (grown_refl _ _) (fun k hk => .inl (Option.some.inj hk).symm))
      simp only [World.size_alloc, List.length_nil] at Y
      exact Y
    · have e1 : (w.alloc (.cells (madeCells #[.bool false] 0) 4)).heap.size = w.heap.size + 1 := by simp
      have o5 := HO.out (w.alloc (.cells (madeCells #[.bool false] 0) 4)) (w.heap.size + 1) e1.symm ((w.alloc (.cells (madeCells #[.bool false] 0) 4)).alloc (.cells #[] 39)) (Chg.refl no _)
      have hr := HR.out w _ ((Chg.refl no _).alloc (.cells #[] 39))
      have Y := made_drew (HP.out w _ _ (w.heap.size + 1) w.heap.size _ (by omega) (Nat.le_refl _) (by omega) (by simp) (((Chg.refl no w).alloc _).alloc _) hr o5 (grown_refl _ _) (fun k hk => .inl (Option.some.inj hk).symm))
      simp only [World.size_alloc, List.length_nil] at Y
      exact Y
  · obtain ⟨n, hn⟩ : ∃ n, ps.length = n := ⟨_, rfl⟩
    obtain ⟨xs, hxs⟩ : ∃ xs, ps.flatMap f2 = xs := ⟨_, rfl⟩
    rw [hn] at hfl hl HA HR HP HQ ⊢
    rw [hxs] at hc hfl h1 HP HQ
    have hmake := fun w => run_make_row' (P := Try.prog) 47 4 (.bool false) 1 Try.underlying47 info4 rfl .i64 .i64 n (by omega) (by omega) w
    have HC : Hid (∀ W, Chg no w W → ∀ j u, xs[j]? = some u → W.cell? (x.add j) = some u) := fun W k j u hu => k.cell (hc j u hu) id
    have HF : Hid (xs.length = n * 2) := hfl
    have H1 : Hid (∀ u ∈ xs, u.oneCell' = true) := h1
    clear hn hxs hx hc hfl h1
    go_enter Try.func10, Try.ntmps10
    go_wp2_with fail
    go_region_law (first
      | (refine step_append_at rfl (.tmp 3) (.tmp 4) 30 rfl 39 i0 (nv 0 0) 2 16 Try.underlying30 hi hz0 hz1 hz2 rfl (by decide) (.slice (some ⟨w.heap.size, 0, none⟩) 0 0) 0 [] (by simp [Act.eval]) (HO.out w _ rfl _ (by first | exact (Chg.refl no _).drew | exact ((Chg.refl no _).alloc _).drew)) x n cap xs (by simp [Act.eval]) HF.out (HC.out _ (by first | exact ((Chg.refl no w).alloc _).drew | exact (((Chg.refl no w).alloc _).alloc _).drew)) H1.out (by unfold maxLen; omega) (by omega) ?_; intro v5 w5 o5 g5 p5; obtain ⟨a5, c5, rfl⟩ := owns_shape o5)
      | (refine step_append_at rfl (.tmp 3) (.tmp 4) 30 rfl 39 i0 (nv 0 0) 2 16 Try.underlying30 hi hz0 hz1 hz2 rfl (by decide) (.slice (some ⟨w.heap.size + 1, 0, none⟩) 0 0) 0 [] (by simp [Act.eval]) (HO.out (w.alloc (.cells (madeCells #[.bool false] n) 4)) _ (by simp) _ (Chg.refl no _).drew) x n cap xs (by simp [Act.eval]) HF.out (HC.out _ ((((Chg.refl no w).alloc _).alloc _).drew)) H1.out (by unfold maxLen; omega) (by omega) ?_; intro v5 w5 o5 g5 p5; obtain ⟨a5, c5, rfl⟩ := owns_shape o5))
    all_goals go_wp2
    all_goals go_ret
    all_goals
      simp only [Nat.zero_add, List.nil_append] at o5 p5
      have q5 := fun k hk => (p5 k hk).imp (fun e => (Option.some.inj e).symm) id
      clear p5
    · exact ⟨_, rfl, HA.out w w5 _ (Chg.refl no w) (HQ.out w _ w5 w.heap.size _ (Nat.le_refl _) ((Chg.refl no w).alloc _).drew o5 g5 q5)⟩
    · have e1 : (w.alloc (.cells #[] 39)).heap.size = w.heap.size + 1 := by simp
      have hr := HR.out (w.alloc (.cells #[] 39)) _ (Chg.refl no _).drew
      rw [e1] at hr
      exact ⟨_, rfl, HP.out w _ w5 w.heap.size (w.heap.size + 1) _ (Nat.le_refl _) (by omega) (by omega) (by simp; omega) (((Chg.refl no w).alloc _).alloc _).drew hr o5 g5 q5⟩
    · have hr := HR.out w _ ((Chg.refl no _).alloc (.cells #[] 39)).drew
      exact ⟨_, rfl, HP.out w _ w5 (w.heap.size + 1) w.heap.size _ (by omega) (Nat.le_refl _) (by omega) (by simp) (((Chg.refl no w).alloc _).alloc _).drew hr o5 g5 q5⟩

end Go.Proofs.Ytocbmjkbbbmncaa.st
