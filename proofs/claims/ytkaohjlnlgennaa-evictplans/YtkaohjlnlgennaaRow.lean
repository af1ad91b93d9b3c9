/- Rows of ints in new memory; contracts of Path, the document's Path, CopyInts, Ints, Has. -/
import Derived.Test.YtkaohjlnlgennaaSha
import Derived.Test.YtkaohjlnlgennaaApp
namespace Go.Proofs.Ytkaohjlnlgennaa.st
open Go.ChangeShapes Go.WideShapes Go.ChangeAt Go.RowKit Go.Proofs.Ytkaohjlnlgennaa.hp Go.Proofs.Ytkaohjlnlgennaa.tm
set_option linter.unusedVariables false

/-- Ints in new memory, of the caller's own. -/
def New (w : World) (zs : List Int) (v : Value) (w' : World) : Prop := w'.ownsRow w.heap.size 3 1 v zs.length (zs.map (Value.int .i64)) ∧ Chg no w w'

theorem New.lies {w w' : World} {zs : List Int} {v : Value} (h : New w zs v w') : Lies (fun k => w.heap.size ≤ k ∧ k < w'.heap.size) w' v (zs.map (Value.int .i64)) :=
  Lies.of_owns h.1 h.1.lt

theorem New.shape {w w' : World} {zs : List Int} {v : Value} (h : New w zs v w') : ∃ a c, v = .slice a zs.length c := owns_shape h.1

theorem New.chg {w w1 w2 : World} {zs : List Int} {v : Value} (h : New w zs v w1) (k : Chg no w1 w2) : New w zs v w2 := ⟨k.owns h.1 (fun _ _ h => h), h.2.then k⟩

theorem New.drewN {w w1 : World} {zs : List Int} {v : Value} (h : New w zs v w1) (n : Nat) : New w zs v (w1.drewN n) := h.chg ((Chg.refl no w1).drewN n)

theorem New.nil (w : World) : New w [] (.slice none 0 0) w := ⟨World.ownsRow_nil _ _ _ _, Chg.refl _ _⟩

/-- A value of a row of the call's own. -/
theorem owns_at {w : World} {base n c k : Nat} {e : TypeId} {a : Option Addr} {xs : List Value} {u : Value} (h : w.ownsRow base e 1 (.slice a n c) n xs) (hz : xs[k]? = some u) :
    ∃ g, a = some ⟨g, 0, none⟩ ∧ base ≤ g ∧ w.cell? ⟨g, k, none⟩ = some u ∧ w.frozen? ⟨g, k, none⟩ = false := by
  have hk : k < xs.length := (List.getElem?_eq_some_iff.1 hz).1
  have hl := h.1
  rcases h.2 with ⟨hv, hn⟩ | ⟨g, cap, cur, hv, hb, _⟩
  · omega
  · cases hv
    refine ⟨g, rfl, hb, ?_, h.frozenAt k⟩
    rw [h.cellAt k (by omega), hz]

theorem lies_at {J : Nat → Prop} {w : World} {a : Option Addr} {l c : Nat} {zs : List Int} (h : Lies J w (.slice a l c) (zs.map (Value.int .i64))) (k : Nat) (hk : k < zs.length) : ∃ y, a = some y ∧ w.cell? (y.add k) = some (.int .i64 (zs.getD k 0)) := by
  obtain ⟨a', c', hv, hc⟩ := h.slice
  cases hv
  obtain ⟨y, hy, _, hy2⟩ := hc k (.int .i64 (zs.getD k 0)) (by rw [List.getElem?_map, List.getD_eq_getElem?_getD, List.getElem?_eq_getElem hk]; rfl)
  exact ⟨y, hy, hy2⟩

/-- A number set. -/
theorem New.set {w w' : World} {g n c k : Nat} {zs : List Int} (h : New w zs (.slice (some ⟨g, 0, none⟩) n c) w') (u : Int) : New w (zs.set k u) (.slice (some ⟨g, 0, none⟩) n c) (w'.setCell ⟨g, k, none⟩ (.int .i64 u)) := by
  have hn : n = zs.length := by
    obtain ⟨a, c', hv⟩ := h.shape
    cases hv
    rfl
  subst hn
  have := h.1.stored k (.int .i64 u)
  refine ⟨?_, h.2.setCell _ _ (.inr (h.1.lt g rfl).1)⟩
  rw [List.length_set, List.map_set]
  exact this.1

/-- What an append to a row of the call's own leaves. -/
theorem New.grew {w w1 w2 : World} {v v' : Value} {zs ys ts : List Int} (h : New w zs v w1) (G : Grew 3 w1 w2 v v' zs.length (zs.map (Value.int .i64)) (ys.map (Value.int .i64))) (ht : zs ++ ys = ts) : New w ts v' w2 := by
  subst ht
  have hz := h.2.size
  have ho := G.own
  rw [← List.map_append, List.length_map] at ho
  refine ⟨⟨by simp, ?_⟩, h.2.grown G.grown (fun k hk => .inr (h.1.lt k hk).1)⟩
  rcases ho.2 with hh | ⟨g, cap, cur, hv, hb, rest⟩
  · exact .inl (by simpa using hh)
  · refine .inr ⟨g, cap, cur, by simpa using hv, ?_, by simpa using rest⟩
    rcases G.place g (by rw [hv]; rfl) with hp | hp
    · exact (h.1.lt g hp).1
    · omega

/-- A row just built. -/
theorem New.built (w w1 : World) (k : Chg no w w1) (zs : List Int) (hm : zs.length ≤ maxLen) : New w zs (.slice (some ⟨w1.heap.size, 0, none⟩) zs.length zs.length) (w1.alloc (.cells (zs.map (Value.int .i64)).toArray 3)) := by
  have := k.size
  refine ⟨⟨by simp, .inr ⟨_, zs.length, _, rfl, by omega, heap_alloc_new w1 _, by omega, hm, by simp, ?_⟩⟩, k.alloc _⟩
  rw [List.take_of_length_le (by simp)]

theorem lies_block {w : World} {g : Nat} {zs : List Value} {t : TypeId} (h : w.heap[g]? = some (.cells zs.toArray t (0, 0))) (c : Nat) : Lies (fun k => k = g) w (.slice (some ⟨g, 0, none⟩) zs.length c) zs :=
  .inr ⟨_, _, rfl, fun _ => rfl, fun i u hu => by rw [Addr.add_lit, Nat.zero_add]; exact (row_cell h i u hu).1⟩

/-! ### Path -/

/-- The first k of a path, zeros behind. -/
def part (h l k : Nat) : List Int := (List.range (h + 1)).map fun j => if j < k then (bat h l j : Int) else 0

theorem part_length (h l k : Nat) : (part h l k).length = h + 1 := by simp [part]

theorem part_get (h l k j : Nat) (hj : j ≤ h) : (part h l k)[j]? = some (if j < k then (bat h l j : Int) else 0) := by
  unfold part
  rw [List.getElem?_map, List.getElem?_range (by omega)]
  rfl

theorem part_succ (h l k : Nat) (hk : k ≤ h) : part h l (k + 1) = (part h l k).set k (bat h l k) := by
  apply List.ext_getElem?
  intro i
  by_cases hi : i ≤ h
  · rw [part_get _ _ _ _ hi, List.getElem?_set]
    by_cases hik : k = i
    · subst hik
      rw [if_pos (by omega), if_pos rfl, if_pos (by rw [part_length]; omega)]
    · rw [if_neg hik, part_get _ _ _ _ hi]
      by_cases h1 : i < k
      · rw [if_pos (by omega), if_pos h1]
      · rw [if_neg (by omega), if_neg h1]
  · rw [List.getElem?_eq_none (by rw [part_length]; omega), List.getElem?_eq_none (by simp [part_length]; omega)]

theorem part_zero (h l : Nat) : (part h l 0).map (Value.int .i64) = List.replicate (h + 1) (.int .i64 0) := by
  apply List.ext_getElem?
  intro i
  rw [List.getElem?_map]
  by_cases hi : i ≤ h
  · rw [part_get _ _ _ _ hi, if_neg (by omega), List.getElem?_replicate, if_pos (by omega)]
    rfl
  · rw [List.getElem?_eq_none (by rw [part_length]; omega), List.getElem?_eq_none (by simp; omega)]
    rfl

theorem part_all (h l : Nat) : part h l (h + 1) = path h l := by
  unfold part path
  refine List.map_congr_left fun j hj => ?_
  rw [if_pos (List.mem_range.1 hj)]

/-! ### The document's Path -/

theorem path_drop (h l k : Nat) (hk : k ≤ h) : (path h l).drop k = (bat h l k : Int) :: (path h l).drop (k + 1) := by
  have hl : k < (path h l).length := by rw [path_length]; omega
  rw [List.drop_eq_getElem_cons hl]
  congr 1
  have := path_get h l k hk
  rw [List.getElem?_eq_getElem hl] at this
  exact Option.some.inj this

set_option maxHeartbeats 1000000 in
theorem rpath_some (w : World) (h l : Nat) (h1 : h ≤ 6) (h2 : l < 2 ^ h) :
    Calls Try.prog 53 #[.int .i64 h, .int .i64 l] w fun e w' => ∃ v, e = .returned v ∧ New w (path h l) v w' := by
  obtain ⟨i0, hi, hz0, hz1, hz2⟩ := info_parts info3
  have HA := rmayLeaf_any w h l
  rw [okL_of h1 h2] at HA
  have hp := pow_le6 h h1
  have i1 : (h : Int) ≤ 6 := by omega
  have i2 : (l : Int) < 64 := by omega
  obtain ⟨P, hP⟩ : ∃ P : Int, (2 : Int) ^ h = P := ⟨_, rfl⟩
  have hP1 : ((2 ^ h : Nat) : Int) = P := by rw [← hP]; exact pow_cast _
  have p1 : 1 ≤ P := by omega
  have p2 : P ≤ 64 := by omega
  have hw : wrap64 P = P := by unfold wrap64; omega
  have HE : Hid (P - 1 + (l : Int) = (bat h l h : Int)) := by
    show P - 1 + (l : Int) = (bat h l h : Int)
    rw [bat_top]
    omega
  have H2 : Hid (l < 2 ^ h) := h2
  clear h2 hp hP1
  go_enter Try.func53, Try.ntmps53
  go_wp2_with fail
  refine HA.mono ?_
  rintro e w1 ⟨rfl, rfl⟩
  clear HA
  go_wp2_with fail
  have HN : Hid (New w1 ((path h l).drop h) (.slice (some ⟨w1.heap.size, 0, none⟩) 1 1) (w1.alloc (.cells #[.int .i64 (P - 1 + (l : Int))] 3))) := by
    have := New.built w1 w1 (Chg.refl _ _) [(bat h l h : Int)] (by unfold maxLen; simp)
    rw [path_drop h l h (Nat.le_refl _), List.drop_eq_nil_of_le (by rw [path_length]; omega), HE.out]
    exact this
  rw [HE.out] at HN ⊢
  clear HE hw p1 p2 hP
  go_loopw [5, 6] (fun n vb wr => ∃ k : Nat, k ≤ h ∧ n = .int .i64 (bat h l k : Int) ∧ New w1 ((path h l).drop k) vb wr) (fun n _ _ => (intOf n).toNat)
  case atStart => exact ⟨h, by omega, rfl, HN.out⟩
  case round =>
    clear HN
    obtain ⟨k, hk, rfl, hN⟩ := hrel
    obtain ⟨xa, xc, rfl⟩ := hN.shape
    by_cases hk0 : 0 < k
    · obtain ⟨j, rfl⟩ : ∃ j, k = j + 1 := ⟨k - 1, by omega⟩
      obtain ⟨_, _, b3, b4⟩ := bat_facts h1 H2.out (show j ≤ h by omega)
      obtain ⟨b5, b6⟩ := b4 (by omega)
      obtain ⟨_, _, b7, _⟩ := bat_facts h1 H2.out hk
      have HD : Hid ([(bat h l j : Int)] ++ (path h l).drop (j + 1) = (path h l).drop j) := (path_drop h l j (by omega)).symm
      obtain ⟨T, hT⟩ : ∃ T, (path h l).drop (j + 1) = T := ⟨_, rfl⟩
      have hTl : T.length ≤ 7 := by rw [← hT, List.length_drop, path_length]; omega
      obtain ⟨U, hU⟩ : ∃ U : Int, (bat h l (j + 1) : Int) = U := ⟨_, rfl⟩
      have u1 : 0 < U := by omega
      have u2 : U ≤ 126 := by omega
      have hV : (U - 1) / 2 = (bat h l j : Int) := by omega
      obtain ⟨V, hV2⟩ : ∃ V : Int, (bat h l j : Int) = V := ⟨_, rfl⟩
      rw [hV2] at hV
      rw [hT] at hN HD ⊢
      rw [hV2] at HD
      rw [hU]
      have HN : Hid (New w1 T (.slice xa T.length xc) wr) := hN
      have HV2 : Hid ((bat h l j : Int) = V ∧ V < U ∧ 0 ≤ V) := ⟨hV2, by omega, by omega⟩
      have HL : Hid (∀ w', Chg no wr w' → Lies (fun _ => True) w' (.slice xa T.length xc) (T.map (Value.int .i64))) := fun w' k => (hN.lies.mono (fun _ _ => trivial)).chg k (fun _ _ h => h)
      have HB : Hid (New w1 [V] (.slice (some ⟨wr.heap.size, 0, none⟩) 1 1) (wr.alloc (.cells #[.int .i64 V] 3))) := New.built w1 wr hN.2 [V] (by unfold maxLen; simp)
      clear hT hN hU b3 b4 b5 b6 b7 hV2
      go_wp2_with (at_builtin; refine wpList_append_grew rfl _ _ 22 rfl 3 i0 (.int .i64 0) 8 Try.underlying22 hi hz0 hz1 hz2 rfl (.slice (some ⟨wr.heap.size, 0, none⟩) 1 1) 1 ([V].map (Value.int .i64)) rfl (owns_base HB.out.1 (Nat.zero_le _)) (fun _ => True) (.slice xa T.length xc) (T.map (Value.int .i64)) rfl (HL.out _ ((Chg.refl no wr).alloc _)) (ints_oneCell _ _) (by simp; unfold maxLen; omega) (by simp; omega) ?_; intro v5 w5 G5)
      have hN5 := HB.out.grew G5 HD.out
      obtain ⟨a5, c5, rfl⟩ := hN5.shape
      clear G5 HN HL HD HB
      go_wp2
      go_roundw
      case rel => exact ⟨j, by omega, by rw [HV2.out.1], hN5⟩
      case measure => have := HV2.out; simp [intOf]; omega
    · obtain rfl : k = 0 := by omega
      rw [bat_zero H2.out]
      rw [List.drop_zero] at hN ⊢
      go_wp2
      go_ret
      exact ⟨_, rfl, hN⟩

theorem rpath_any (w : World) (h l : Int) :
    Calls Try.prog 53 #[.int .i64 h, .int .i64 l] w fun e w' => ∃ v, e = .returned v ∧ New w (pathI h l) v w' := by
  cases ka : okL h l
  · have HA := rmayLeaf_any w h l
    rw [ka] at HA
    rw [pathI_none ka]
    clear ka
    go_enter Try.func53, Try.ntmps53
    go_wp2_with fail
    refine HA.mono ?_
    rintro e w1 ⟨rfl, rfl⟩
    go_wp2
    go_ret
    exact ⟨_, rfl, New.nil _⟩
  · obtain ⟨H, L, rfl, rfl, h1, h2, _⟩ := okL_nat ka
    rw [pathI_of h1 h2]
    exact rpath_some w H L h1 h2

end Go.Proofs.Ytkaohjlnlgennaa.st
