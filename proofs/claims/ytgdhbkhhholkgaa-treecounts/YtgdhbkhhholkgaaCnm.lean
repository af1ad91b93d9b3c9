/- Counts of buckets on all paths; the counts and a list that grows, side by side in memory. -/
import Derived.Test.YtgdhbkhhholkgaaRun
namespace Go.Proofs.Ytgdhbkhhholkgaa.st
open Go.ChangeShapes Go.WideShapes Go.ChangeAt Go.RowKit Go.Proofs.Ytgdhbkhhholkgaa.hp Go.Proofs.Ytgdhbkhhholkgaa.tm
set_option linter.unusedVariables false

/-- The first leaves. -/
def lead (i : Nat) : List Int := (List.range i).map fun x : Nat => (x : Int)

theorem lead_succ (i : Nat) : lead (i + 1) = lead i ++ [(i : Int)] := by
  unfold lead
  rw [List.range_succ, List.map_append]
  rfl

theorem lead_length (i : Nat) : (lead i).length = i := by simp [lead]

theorem wys_lead (h : Int) (i : Nat) : wys h (lead (i + 1)) = wys h (lead i) ++ pathI h i := by
  unfold wys
  rw [lead_succ, List.flatMap_append]
  simp

theorem wys_length (h : Int) (A : List Int) : (wys h A).length ≤ 7 * A.length := by
  induction A with
  | nil => simp [wys]
  | cons a A ih =>
    have := pathI_length h a
    unfold wys at ih ⊢
    rw [List.flatMap_cons, List.length_append, List.length_cons]
    omega

/-- Each level is shared out evenly: by trying all heights and all buckets. -/
theorem evenly : ∀ h : Fin 7, ∀ b : Fin 127, b.val < 2 * 2 ^ h.val - 1 → ((List.range (2 ^ h.val)).flatMap fun l => path h l).count (b.val : Int) = 2 ^ (h.val - lvl b.val) := by decide +kernel

theorem wys_full {h : Nat} (h1 : h ≤ 6) : wys h (lead (2 ^ h)) = (List.range (2 ^ h)).flatMap fun l => path h l := by
  unfold wys lead
  rw [List.flatMap_map, List.flatMap_def, List.flatMap_def]
  congr 1
  exact List.map_congr_left fun l hl => pathI_of h1 (List.mem_range.1 hl)

theorem count_full {h b : Nat} (h1 : h ≤ 6) (hb : b < 2 * 2 ^ h - 1) : (wys h (lead (2 ^ h))).count (b : Int) = 2 ^ (h - lvl b) := by
  rw [wys_full h1]
  exact evenly ⟨h, by omega⟩ ⟨b, by have := (pow_le6 h h1).2; omega⟩ hb

theorem rise_full (S : List Int) (n : Nat) (hS : ∀ b, b < n → (b : Int) ∈ S) : (rise S n).length = n := by
  induction n with
  | zero => rfl
  | succ n ih =>
    rw [rise_succ, if_pos (List.contains_iff_mem.2 (hS n (by omega))), List.length_append, ih (fun b hb => hS b (by omega))]
    rfl

theorem uni_full {h : Nat} (h1 : h ≤ 6) : (uni h (lead (2 ^ h))).length = 2 * 2 ^ h - 1 := by
  have ha : (lead (2 ^ h)).all (okL h) = true := by
    rw [List.all_eq_true]
    intro l hl
    obtain ⟨x, hx, rfl⟩ := List.mem_map.1 hl
    exact okL_of h1 (List.mem_range.1 hx)
  rw [uni_yes ha, bks_of h1, Int.toNat_natCast]
  refine rise_full _ _ fun b hb => ?_
  refine List.count_pos_iff.1 ?_
  rw [count_full h1 hb]
  exact Nat.two_pow_pos _

/-- The counts in the block g, the list of leaves in younger blocks. -/
structure Cnt (w : World) (g N h : Nat) (S : List Int) (va : Value) (A : List Int) (wr : World) : Prop where
  row : New w (tally h S) (.slice (some ⟨g, 0, none⟩) N N) wr
  all : wr.ownsRow (g + 1) 3 1 va A.length (A.map (Value.int .i64))

theorem Cnt.chg {w w1 w2 : World} {g N h : Nat} {S A : List Int} {va : Value} (c : Cnt w g N h S va A w1) (k : Chg no w1 w2) : Cnt w g N h S va A w2 := ⟨c.row.chg k, k.owns c.all (fun _ _ h => h)⟩

theorem Cnt.add {w w1 : World} {g N h b : Nat} {S A : List Int} {va : Value} (c : Cnt w g N h S va A w1) (hb : b < 2 * 2 ^ h - 1) : Cnt w g N h (S ++ [(b : Int)]) va A (w1.setCell ⟨g, b, none⟩ (.int .i64 ((S.count (b : Int) : Int) + 1))) := by
  have k : Chg (fun x => x = g) w1 (w1.setCell ⟨g, b, none⟩ (.int .i64 ((S.count (b : Int) : Int) + 1))) := (Chg.refl (fun x => x = g) w1).setCell _ _ (.inl rfl)
  refine ⟨?_, k.owns c.all (fun x hx e => ?_)⟩
  · rw [← tally_add h S b hb]
    exact c.row.set _
  · have := (c.all.lt x hx).1
    omega

theorem Cnt.grew {w w1 w2 : World} {g N h : Nat} {S A B : List Int} {va v' : Value} {u : Int} (c : Cnt w g N h S va A w1) (G : Grew 3 w1 w2 va v' A.length (A.map (Value.int .i64)) ([u].map (Value.int .i64))) (hB : A ++ [u] = B) : Cnt w g N h S v' B w2 := by
  subst hB
  have k : Chg (fun x => va.ownBlock = some x) w1 w2 := (Chg.refl _ w1).grown G.grown (fun x hx => .inl hx)
  have hg := (c.row.1.lt g rfl).2
  refine ⟨⟨k.owns c.row.1 (fun x hx e => ?_), c.row.2.trans k (fun x hx => .inr ?_)⟩, ?_⟩
  · cases hx
    have := (c.all.lt g e).1
    omega
  · have := (c.all.lt x hx).1
    have := (c.row.1.lt g rfl).1
    omega
  · have ho := G.own
    rw [← List.map_append, List.length_map] at ho
    refine ⟨by simp, ?_⟩
    rcases ho.2 with hh | ⟨b, cap, cur, hv, hb, rest⟩
    · simp at hh
    · refine .inr ⟨b, cap, cur, by simpa using hv, ?_, by simpa using rest⟩
      rcases G.place b (by rw [hv]; rfl) with hp | hp
      · exact (c.all.lt b hp).1
      · omega

end Go.Proofs.Ytgdhbkhhholkgaa.st
