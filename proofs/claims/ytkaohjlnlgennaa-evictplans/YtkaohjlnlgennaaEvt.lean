/- Who goes where, of a tree: the plan as a plain function, and what follows. No word of the program. -/
import Derived.Test.YtkaohjlnlgennaaEvo
import Derived.Test.YtkaohjlnlgennaaSrl
import Derived.Test.YtkaohjlnlgennaaUnm
namespace Go.Proofs.Ytkaohjlnlgennaa.ev
open Go.Lib Go.Proofs.Ytkaohjlnlgennaa.tm
set_option linter.unusedVariables false
set_option linter.unusedSimpArgs false

/-- An item's leaf: the last one of that number. -/
def leafOf (its : List (Int × Int)) (x : Int) : Int := its.foldl (fun l i => if i.1 = x then i.2 else l) 0
def onP (h : Int) (its : List (Int × Int)) (b x : Int) : Bool := onI h b (leafOf its x)
def lvB (b : Int) : Nat := lvl b.toNat
def ids (its : List (Int × Int)) : List Int := its.map (·.1)
/-- May they be planned? -/
def mayP (h z : Int) (ls : List Int) (its : List (Int × Int)) : Prop := okH h = true ∧ (1 ≤ z ∧ z ≤ 4) ∧ (∀ l ∈ ls, okL h l = true) ∧ (∀ i ∈ its, okL h i.2 = true) ∧ (ids its).Nodup
def planF (h z : Int) (ls : List Int) (its : List (Int × Int)) : (Int → List Int) × List Int :=
  fill (onP h its) z.toNat (ordTo lvB (uni h ls) h.toNat (h.toNat + 1)) (fun _ => [], sortI (ids its))

theorem leafOf_snoc (its : List (Int × Int)) (i : Int × Int) (x : Int) : leafOf (its ++ [i]) x = if i.1 = x then i.2 else leafOf its x := by simp [leafOf]

theorem foldl_leaf (x : Int) : ∀ (its : List (Int × Int)) (l : Int), (∀ i ∈ its, i.1 ≠ x) → its.foldl (fun l i => if i.1 = x then i.2 else l) l = l
  | [], _, _ => rfl
  | i :: its, l, h => by
    show its.foldl _ (if i.1 = x then i.2 else l) = l
    rw [if_neg (h i (by simp)), foldl_leaf x its l fun j hj => h j (by simp [hj])]

theorem leafOf_none (its : List (Int × Int)) (x : Int) (h : ∀ i ∈ its, i.1 ≠ x) : leafOf its x = 0 := foldl_leaf x its 0 h

theorem leafOf_item (its : List (Int × Int)) (hn : (ids its).Nodup) (i : Int × Int) (hi : i ∈ its) : leafOf its i.1 = i.2 := by
  have key : ∀ (its : List (Int × Int)) (l : Int), (ids its).Nodup → i ∈ its → its.foldl (fun l j => if j.1 = i.1 then j.2 else l) l = i.2 := by
    intro its
    induction its with
    | nil => intro l _ h; simp at h
    | cons j its ih =>
      intro l hn hi
      obtain ⟨n1, n2⟩ := List.nodup_cons.1 hn
      show its.foldl _ (if j.1 = i.1 then j.2 else l) = i.2
      rcases List.mem_cons.1 hi with e | e
      · subst e
        rw [if_pos rfl, foldl_leaf]
        intro k hk e
        exact n1 (List.mem_map.2 ⟨k, hk, e⟩)
      · exact ih _ n2 e
  exact key its 0 hn hi

theorem leafOf_same (a b : List (Int × Int)) (ha : (ids a).Nodup) (hb : (ids b).Nodup) (h : ∀ i, i ∈ a ↔ i ∈ b) : leafOf a = leafOf b := by
  funext x
  by_cases e : ∃ i ∈ a, i.1 = x
  · obtain ⟨i, hi, rfl⟩ := e
    rw [leafOf_item a ha i hi, leafOf_item b hb i ((h i).1 hi)]
  · have e1 : ∀ i ∈ a, i.1 ≠ x := fun i hi e2 => e ⟨i, hi, e2⟩
    rw [leafOf_none a x e1, leafOf_none b x fun i hi => e1 i ((h i).2 hi)]

/-- The order in which items are told does not count. -/
theorem planF_same (h z : Int) (ls : List Int) (a b : List (Int × Int)) (ha : (ids a).Nodup) (hb : (ids b).Nodup) (hm : ∀ i, i ∈ a ↔ i ∈ b) : planF h z ls a = planF h z ls b := by
  have e1 : onP h a = onP h b := by
    funext c x
    unfold onP
    rw [leafOf_same a b ha hb hm]
  have e2 : sortI (ids a) = sortI (ids b) := sortI_same _ _ ha hb fun x => by
    unfold ids
    simp only [List.mem_map, hm]
  unfold planF
  rw [e1, e2]

theorem uni_mem {h : Int} {ls : List Int} (hk : ∀ l ∈ ls, okL h l = true) (b : Int) : b ∈ uni h ls ↔ ∃ l ∈ ls, b ∈ pathI h l := by
  unfold uni
  rw [if_pos (List.all_eq_true.2 hk)]
  unfold rise
  rw [List.mem_filter, List.contains_iff_mem]
  constructor
  · rintro ⟨_, h2⟩
    exact List.mem_flatMap.1 h2
  · rintro ⟨l, hl, hb⟩
    refine ⟨?_, List.mem_flatMap.2 ⟨l, hl, hb⟩⟩
    obtain ⟨H, L, rfl, rfl, h1, h2, _⟩ := okL_nat (hk l hl)
    rw [pathI_of h1 h2] at hb
    have := path_lt h1 h2 hb
    exact List.mem_map.2 ⟨b.toNat, List.mem_range.2 (by omega), by omega⟩

theorem uni_rising (h : Int) (ls : List Int) : (uni h ls).Pairwise (· < ·) := by
  unfold uni
  split
  · unfold rise
    refine List.Pairwise.filter _ ?_
    refine List.Pairwise.map _ (R := fun a b => a < b) (fun a b e => by omega) ?_
    exact List.pairwise_lt_range
  · exact List.Pairwise.nil

section
variable {h z : Int} {ls : List Int} {its : List (Int × Int)}

/-- A bucket of the union, in numbers. -/
theorem uni_nat (hk : ∀ l ∈ ls, okL h l = true) {b : Int} (hb : b ∈ uni h ls) : ∃ H B : Nat, h = H ∧ b = B ∧ H ≤ 6 ∧ B < 2 * 2 ^ H - 1 ∧ lvl B ≤ H := by
  obtain ⟨l, hl, hp⟩ := (uni_mem hk b).1 hb
  obtain ⟨H, L, rfl, rfl, h1, h2, _⟩ := okL_nat (hk l hl)
  rw [pathI_of h1 h2] at hp
  have e := path_lt h1 h2 hp
  rw [bks_of h1] at e
  obtain ⟨B, rfl⟩ : ∃ B : Nat, b = B := ⟨b.toNat, by omega⟩
  have hB : B < 2 * 2 ^ H - 1 := by omega
  exact ⟨H, B, rfl, rfl, h1, hB, lvl_le h1 hB⟩

theorem uni_lv (hk : ∀ l ∈ ls, okL h l = true) : ∀ b ∈ uni h ls, lvB b ≤ h.toNat := by
  intro b hb
  obtain ⟨H, B, rfl, rfl, _, _, h3⟩ := uni_nat hk hb
  simpa [lvB] using h3

theorem leafOf_ok (hH : okH h = true) (hi : ∀ i ∈ its, okL h i.2 = true) (hn : (ids its).Nodup) (x : Int) : okL h (leafOf its x) = true := by
  by_cases e : ∃ i ∈ its, i.1 = x
  · obtain ⟨i, hi2, rfl⟩ := e
    rw [leafOf_item its hn i hi2]
    exact hi i hi2
  · rw [leafOf_none its x fun i hi e2 => e ⟨i, hi, e2⟩]
    have := (okH_iff h).1 hH
    refine (okL_iff h 0).2 ⟨this.1, this.2, by omega, ?_⟩
    have := pow_cast h.toNat
    have := Nat.two_pow_pos h.toNat
    omega

/-- What stands behind a plan. -/
theorem plan_ready (hp : mayP h z ls its) : (uni h ls).Nodup ∧ (∀ b ∈ uni h ls, lvB b ≤ h.toNat) ∧ (sortI (ids its)).Nodup ∧ (ordTo lvB (uni h ls) h.toNat (h.toNat + 1)).Nodup := by
  obtain ⟨h1, h2, h3, h4, h5⟩ := hp
  exact ⟨rising_nodup (uni_rising h ls), uni_lv h3, rising_nodup (sortI_rising _ h5), ordTo_nodup (rising_nodup (uni_rising h ls)) _⟩

theorem plan_len (hp : mayP h z ls its) (b : Int) (hb : b ∈ uni h ls) : ((planF h z ls its).1 b).length ≤ z.toNat := by
  obtain ⟨r1, r2, r3, r4⟩ := plan_ready hp
  exact fill_len b _ _ ((all_mem r2 b).2 hb) r4

theorem plan_on (hp : mayP h z ls its) (b : Int) (hb : b ∈ uni h ls) (x : Int) (hx : x ∈ (planF h z ls its).1 b) : onI h b (leafOf its x) = true ∧ x ∈ ids its := by
  obtain ⟨r1, r2, r3, r4⟩ := plan_ready hp
  have := fill_on b _ _ ((all_mem r2 b).2 hb) r4 x hx
  exact ⟨this.1, (sortI_mem _ x).1 this.2⟩

theorem plan_full (hp : mayP h z ls its) (b : Int) (hb : b ∈ uni h ls) (x : Int) (hx : x ∈ (planF h z ls its).2) (ho : onI h b (leafOf its x) = true) : ((planF h z ls its).1 b).length = z.toNat := by
  obtain ⟨r1, r2, r3, r4⟩ := plan_ready hp
  exact fill_left b _ _ ((all_mem r2 b).2 hb) r4 x hx ho

theorem plan_deep (hp : mayP h z ls its) (b c : Int) (hb : b ∈ uni h ls) (hc : c ∈ uni h ls) (hlt : lvB c < lvB b) (x : Int) (hx : x ∈ (planF h z ls its).1 c) (ho : onI h b (leafOf its x) = true) : ((planF h z ls its).1 b).length = z.toNat := by
  obtain ⟨r1, r2, r3, r4⟩ := plan_ready hp
  exact all_deep r1 r2 b c hb hc hlt x hx ho

/-- Each is in one place. -/
theorem plan_once (hp : mayP h z ls its) (x : Int) (hx : x ∈ ids its) : ((uni h ls).countP fun b => ((planF h z ls its).1 b).contains x) + (if (planF h z ls its).2.contains x = true then 1 else 0) = 1 := by
  obtain ⟨r1, r2, r3, r4⟩ := plan_ready hp
  have one : ∀ (u : List Int) (c : Int) (p : Int → Bool), u.Nodup → c ∈ u → p c = true → (∀ b ∈ u, p b = true → b = c) → u.countP p = 1 := by
    intro u
    induction u with
    | nil => intro c p _ h; simp at h
    | cons a u ih =>
      intro c p hn hc hpc hall
      obtain ⟨n1, n2⟩ := List.nodup_cons.1 hn
      rw [List.countP_cons]
      by_cases e : a = c
      · subst e
        rw [if_pos hpc]
        have : u.countP p = 0 := List.countP_eq_zero.2 fun b hb hpb => n1 ((hall b (by simp [hb]) hpb) ▸ hb)
        omega
      · have hc2 : c ∈ u := (List.mem_cons.1 hc).resolve_left fun e2 => e e2.symm
        rw [ih c p n2 hc2 hpc fun b hb => hall b (by simp [hb]), if_neg fun e2 => e (hall a (by simp) e2)]
  rcases fill_somewhere (on := onP h its) (z := z.toNat) x (ordTo lvB (uni h ls) h.toNat (h.toNat + 1)) (fun _ => [], sortI (ids its)) r4 ((sortI_mem _ x).2 hx) with h1 | ⟨c, hc, h1⟩
  · have h2 : (planF h z ls its).2.contains x = true := List.contains_iff_mem.2 h1
    rw [if_pos h2]
    have : ((uni h ls).countP fun b => ((planF h z ls its).1 b).contains x) = 0 := List.countP_eq_zero.2 fun b hb hpb =>
      fill_not_left x b _ _ r3 ((all_mem r2 b).2 hb) r4 (List.contains_iff_mem.1 hpb) h1
    omega
  · have h2 : ¬ (planF h z ls its).2.contains x = true := fun e => fill_not_left x c _ _ r3 hc r4 h1 (List.contains_iff_mem.1 e)
    rw [if_neg h2]
    rw [one (uni h ls) c (fun b => ((planF h z ls its).1 b).contains x) r1 ((all_mem r2 c).1 hc) (List.contains_iff_mem.2 h1) fun b hb hpb => fill_once x b c _ _ r3 ((all_mem r2 b).2 hb) hc r4 (List.contains_iff_mem.1 hpb) h1]

/-- How many lie in buckets, how many are left. -/
theorem plan_sum (hp : mayP h z ls its) : ((uni h ls).map fun b => ((planF h z ls its).1 b).length).sum + (planF h z ls its).2.length = its.length := by
  obtain ⟨r1, r2, r3, r4⟩ := plan_ready hp
  have e1 := fill_sum (on := onP h its) (z := z.toNat) (ordTo lvB (uni h ls) h.toNat (h.toNat + 1)) (fun _ => [], sortI (ids its)) r4
  have e2 : (ordTo lvB (uni h ls) h.toNat (h.toNat + 1)).Perm (uni h ls) := (List.perm_ext_iff_of_nodup r4 r1).2 fun b => all_mem r2 b
  have e3 := (e2.map fun b => ((planF h z ls its).1 b).length).sum_nat
  have e4 : (sortI (ids its)).length = its.length := by rw [sortI_len]; simp [ids]
  have e5 : ((ordTo lvB (uni h ls) h.toNat (h.toNat + 1)).map fun b => ((planF h z ls its).1 b).length).sum + (planF h z ls its).2.length = (sortI (ids its)).length := e1
  omega

theorem plan_none (hp : mayP h z [] its) : planF h z [] its = (fun _ => [], sortI (ids its)) := by
  have e : uni h [] = [] := by
    unfold uni
    rw [if_pos (by simp)]
    simp [rise, wys]
  have e2 : ∀ k, ordTo lvB [] h.toNat k = [] := by
    intro k
    induction k with
    | zero => rfl
    | succ k ih => simp [ordTo, ih]
  unfold planF
  rw [e, e2]
  rfl

theorem low_small : ∀ b : Fin 127, 2 ^ lvl b.val ≤ b.val + 1 := by decide +kernel
theorem low_le {H B : Nat} (h1 : H ≤ 6) (hB : B < 2 * 2 ^ H - 1) : 2 ^ lvl B ≤ B + 1 := low_small ⟨B, by have := (pow_le6 H h1).2; omega⟩

/-- In numbers: on a bucket of the union. -/
theorem on_nat {H : Nat} (h1 : H ≤ 6) {B L : Nat} (hB : B < 2 * 2 ^ H - 1) (h2 : L < 2 ^ H) : onI (H : Int) (B : Int) (L : Int) = (L / 2 ^ (H - lvl B) == B + 1 - 2 ^ lvl B) := by
  unfold onI
  rw [pathI_of h1 h2, Bool.eq_iff_iff, List.contains_iff_mem, on_iff h1 h2 hB, beq_iff_eq]
  unfold bat
  have hl := low_le h1 hB
  have := Nat.two_pow_pos (lvl B)
  omega

/-- Larger buckets never leave more. -/
theorem plan_more (hp : mayP h z ls its) (z' : Int) (hz : z ≤ z') : (planF h z' ls its).2.length ≤ (planF h z ls its).2.length := by
  obtain ⟨r1, r2, r3, r4⟩ := plan_ready hp
  obtain ⟨p1, p2, p3, p4, p5⟩ := hp
  obtain ⟨H, rfl⟩ : ∃ H : Nat, h = H := ⟨h.toNat, by have := (okH_iff h).1 p1; omega⟩
  have hH : H ≤ 6 := by have := (okH_iff (H : Int)).1 p1; omega
  have lf : ∀ x, ∃ L : Nat, leafOf its x = L ∧ L < 2 ^ H := fun x => by
    obtain ⟨H', L, e, e2, _, h3, _⟩ := okL_nat (leafOf_ok p1 p4 p5 x)
    obtain rfl : H = H' := by omega
    exact ⟨L, e2, h3⟩
  refine more (fun l x => (leafOf its x).toNat / 2 ^ (H - l)) (fun b => b.toNat + 1 - 2 ^ lvB b) ?_ ?_ r1 ?_ ?_ _ _ _ _ _ (by omega)
  · intro l x hl
    show _ / 2 ^ (H - l) = _ / 2 ^ (H - (l + 1)) / 2
    have hl' : l + 1 ≤ H := by simpa using hl
    rw [Nat.div_div_eq_div_mul, ← Nat.pow_succ, show (H - (l + 1)).succ = H - l by omega]
  · intro x
    obtain ⟨L, e, hL⟩ := lf x
    show (leafOf its x).toNat / 2 ^ (H - 0) = 0
    rw [e]
    exact Nat.div_eq_of_lt (by simpa using hL)
  · intro b hb x
    obtain ⟨H', B, e, rfl, _, hB, _⟩ := uni_nat p3 hb
    obtain rfl : H = H' := by omega
    obtain ⟨L, e2, hL⟩ := lf x
    unfold onP
    rw [e2, on_nat hH hB hL]
    simp [lvB]
  · intro b hb c hc e1 e2
    obtain ⟨H', B, e, rfl, _, hB, _⟩ := uni_nat p3 hb
    obtain ⟨H'', C, e', rfl, _, hC, _⟩ := uni_nat p3 hc
    obtain rfl : H = H' := by omega
    obtain rfl : H = H'' := by omega
    have q1 := low_le hH hB
    have q2 := low_le hH hC
    simp only [lvB, Int.toNat_natCast] at e1 e2
    rw [e1] at e2 q1
    omega
end

/-- The deepest level that is shared with one of these. -/
def dpI (h : Int) (ls : List Int) (leaf : Int) : Int := if ls.all (okL h) = true ∧ okL h leaf = true then ls.foldl (fun n l => max n (shI h l leaf)) (-1) else -1

theorem foldl_max (g : Int → Int) : ∀ (ls : List Int) (n : Int), n ≤ ls.foldl (fun n l => max n (g l)) n ∧ (∀ l ∈ ls, g l ≤ ls.foldl (fun n l => max n (g l)) n) ∧ (ls.foldl (fun n l => max n (g l)) n = n ∨ ∃ l ∈ ls, ls.foldl (fun n l => max n (g l)) n = g l)
  | [], n => ⟨Int.le_refl _, by simp, .inl rfl⟩
  | a :: ls, n => by
    obtain ⟨h1, h2, h3⟩ := foldl_max g ls (max n (g a))
    refine ⟨by simp only [List.foldl_cons]; omega, ?_, ?_⟩
    · intro l hl
      simp only [List.foldl_cons]
      rcases List.mem_cons.1 hl with rfl | hl
      · omega
      · exact h2 l hl
    · simp only [List.foldl_cons]
      rcases h3 with h3 | ⟨l, hl, h3⟩
      · by_cases e : g a ≤ n
        · exact .inl (by omega)
        · exact .inr ⟨a, by simp, by omega⟩
      · exact .inr ⟨l, by simp [hl], h3⟩

/-- With room for all: each lies at the deepest level that is shared, none is left. -/
theorem plan_room {h z : Int} {ls : List Int} {its : List (Int × Int)} (hp : mayP h z ls its) (hl : ls ≠ []) (hz : its.length ≤ z.toNat) :
    (∀ x ∈ ids its, ∃ c ∈ uni h ls, x ∈ (planF h z ls its).1 c ∧ (lvB c : Int) = dpI h ls (leafOf its x)) ∧ (planF h z ls its).2 = [] := by
  obtain ⟨r1, r2, r3, r4⟩ := plan_ready hp
  have hp' := hp
  obtain ⟨p1, p2, p3, p4, p5⟩ := hp
  obtain ⟨H, rfl⟩ : ∃ H : Nat, h = H := ⟨h.toNat, by have := (okH_iff h).1 p1; omega⟩
  have hH : H ≤ 6 := by have := (okH_iff (H : Int)).1 p1; omega
  have main : ∀ x ∈ ids its, ∃ c ∈ uni (H : Int) ls, x ∈ (planF (H : Int) z ls its).1 c ∧ (lvB c : Int) = dpI (H : Int) ls (leafOf its x) := by
    intro x hx
    obtain ⟨H', L, e, eL, _, hL, hL2⟩ := okL_nat (leafOf_ok p1 p4 p5 x)
    obtain rfl : H = H' := by omega
    -- a leaf's bucket at a shared level
    have shared : ∀ l ∈ ls, ∃ b ∈ uni (H : Int) ls, onP (H : Int) its b x = true ∧ (lvB b : Int) = shI (H : Int) l (leafOf its x) := by
      intro l hl
      obtain ⟨H', A, e, rfl, _, hA, hA2⟩ := okL_nat (p3 l hl)
      obtain rfl : H = H' := by omega
      have hb := shr_bounds hH hA hL
      obtain ⟨k, hk⟩ : ∃ k : Nat, shr H A L = k := ⟨(shr H A L).toNat, by omega⟩
      have hkH : k ≤ H := by omega
      have hsame : bat H A k = bat H L k := (same_iff hH hA2 hL2 hkH).2 (by omega)
      have f := bat_facts hH hL hkH
      refine ⟨(bat H L k : Int), (uni_mem p3 _).2 ⟨(A : Int), hl, ?_⟩, ?_, ?_⟩
      · rw [pathI_of hH hA, ← hsame]
        exact (path_mem H A _).2 ⟨k, hkH, rfl⟩
      · unfold onP onI
        rw [eL, pathI_of hH hL]
        exact List.contains_iff_mem.2 ((path_mem H L _).2 ⟨k, hkH, rfl⟩)
      · rw [eL]
        unfold shI
        rw [if_pos ⟨p3 _ hl, okL_of hH hL⟩]
        simp only [lvB, Int.toNat_natCast]
        rw [f.1, hk]
    obtain ⟨l0, hl0⟩ := List.exists_mem_of_ne_nil ls hl
    obtain ⟨b0, hb0, ho0, _⟩ := shared l0 hl0
    obtain ⟨c, hc, hcx, hoc, hmax⟩ := room (on := onP (H : Int) its) (z := z.toNat) (s := (fun _ => [], sortI (ids its))) r1 r2 r3 (by
      show (sortI (ids its)).length ≤ _
      rw [sortI_len]
      simpa [ids] using hz) x ((sortI_mem _ x).2 hx) b0 hb0 ho0
    refine ⟨c, hc, hcx, ?_⟩
    have hok : ls.all (okL (H : Int)) = true ∧ okL (H : Int) (leafOf its x) = true := ⟨List.all_eq_true.2 p3, leafOf_ok p1 p4 p5 x⟩
    obtain ⟨m1, m2, m3⟩ := foldl_max (fun l => shI (H : Int) l (leafOf its x)) ls (-1)
    unfold dpI
    rw [if_pos hok]
    obtain ⟨M, hM⟩ : ∃ M, ls.foldl (fun n l => max n (shI (H : Int) l (leafOf its x))) (-1) = M := ⟨_, rfl⟩
    rw [hM] at m1 m2 m3 ⊢
    -- not deeper than what is shared
    have le1 : (lvB c : Int) ≤ M := by
      obtain ⟨l, hl, hpl⟩ := (uni_mem p3 c).1 hc
      obtain ⟨H', A, e, rfl, _, hA, hA2⟩ := okL_nat (p3 l hl)
      obtain rfl : H = H' := by omega
      obtain ⟨H', B, e, rfl, _, hB, hBl⟩ := uni_nat p3 hc
      obtain rfl : H = H' := by omega
      rw [pathI_of hH hA] at hpl
      have e1 := (on_iff hH hA hB).1 hpl
      unfold onP onI at hoc
      rw [eL, pathI_of hH hL] at hoc
      have e2 := (on_iff hH hL hB).1 (List.contains_iff_mem.1 hoc)
      have e3 := (same_iff hH hA2 hL2 hBl).1 (by rw [e1, e2])
      have e4 := m2 _ hl
      rw [eL] at e4
      unfold shI at e4
      rw [if_pos ⟨p3 _ hl, okL_of hH hL⟩] at e4
      simp only [Int.toNat_natCast] at e4
      simp only [lvB, Int.toNat_natCast]
      omega
    have le2 : M ≤ (lvB c : Int) := by
      rcases m3 with m3 | ⟨l, hl, m3⟩
      · omega
      · obtain ⟨b, hb, hob, hlv⟩ := shared l hl
        have := hmax b hb hob
        omega
    omega
  refine ⟨main, ?_⟩
  by_cases e : (planF (H : Int) z ls its).2 = []
  · exact e
  · exfalso
    obtain ⟨x, hx⟩ := List.exists_mem_of_ne_nil _ e
    have hxs : x ∈ ids its := (sortI_mem _ x).1 ((fill_sub _ _).subset hx)
    obtain ⟨c, hc, hcx, _⟩ := main x hxs
    exact fill_not_left x c _ _ r3 ((all_mem r2 c).2 hc) r4 hcx hx

end Go.Proofs.Ytkaohjlnlgennaa.ev
