/-
  Proved: for every number, every id and all places the law PosLast returns true; no condition.
-/
import Derived.Test.YtocbmjkbbbmncaaArg
namespace Go.Proofs.Ytocbmjkbbbmncaa.posLast
open Go.ChangeShapes Go.WideShapes Go.ChangeAt Go.RowKit Go.Proofs.Ytocbmjkbbbmncaa.hp Go.Proofs.Ytocbmjkbbbmncaa.st
set_option linter.unusedVariables false

theorem told_none (ps : List (Int × Int)) (n k : Nat) : told ps (List.replicate n false) k = [] := by
  induction k with
  | zero => rfl
  | succ k ih =>
    rw [told, if_neg, ih]
    rw [List.getD_eq_getElem?_getD, List.getElem?_replicate]
    split <;> simp

/-- The places: all at the beginning but one. -/
def pl (N K : Nat) (x : Int × Int) : List (Int × Int) := (List.replicate N (0, 0)).set K x
/-- The marks. -/
def mkk (N K : Nat) (b : Bool) : List Bool := (List.replicate N false).set K b

theorem pl_length (N K : Nat) (x : Int × Int) : (pl N K x).length = N := by unfold pl; rw [List.length_set, List.length_replicate]

theorem pl_get {N K : Nat} (h : K < N) (x : Int × Int) : (pl N K x).getD K (0, 0) = x := by
  unfold pl
  rw [List.getD_eq_getElem?_getD, List.getElem?_set, if_pos rfl, if_pos (by simpa using h)]
  rfl

theorem mkk_get {N K : Nat} (h : K < N) (b : Bool) (j : Nat) : (mkk N K b).getD j false = (decide (j = K) && b) := by
  unfold mkk
  rw [List.getD_eq_getElem?_getD, List.getElem?_set]
  by_cases e : K = j
  · subst e
    rw [if_pos rfl, if_pos (by simpa using h)]
    simp
  · rw [if_neg e, List.getElem?_replicate]
    have : decide (j = K) = false := by simpa using fun e2 => e e2.symm
    rw [this]
    split <;> rfl

theorem told_one {N K : Nat} (h : K < N) (x : Int × Int) (b : Bool) (k : Nat) : told (pl N K x) (mkk N K b) k = if K < k ∧ b = true then [((K : Int), x)] else [] := by
  induction k with
  | zero => simp [told]
  | succ k ih =>
    rw [told, mkk_get h, ih]
    by_cases e : k = K
    · subst e
      rw [pl_get h]
      cases b <;> simp
    · have e1 : decide (k = K) = false := by simpa using e
      rw [e1]
      simp only [Bool.false_and, Bool.false_eq_true, if_false]
      have e2 : (K < k ∧ b = true) ↔ (K < k + 1 ∧ b = true) := by constructor <;> (rintro ⟨h1, h2⟩; exact ⟨by omega, h2⟩)
      simp only [e2]

theorem pl_zero (N K : Nat) : pl N K (0, 0) = List.replicate N (0, 0) := by
  unfold pl
  apply List.ext_getElem?
  intro i
  rw [List.getElem?_set]
  by_cases e : K = i
  · subst e
    rw [if_pos rfl, List.getElem?_replicate]
    simp
  · rw [if_neg e]

theorem mkk_false (N K : Nat) : mkk N K false = List.replicate N false := by
  unfold mkk
  apply List.ext_getElem?
  intro i
  rw [List.getElem?_set]
  by_cases e : K = i
  · subst e
    rw [if_pos rfl, List.getElem?_replicate]
    simp
  · rw [if_neg e]

theorem pl_set (N K : Nat) (x y : Int × Int) : (pl N K x).set K y = pl N K y := by unfold pl; rw [List.set_set]
theorem mkk_set (N K : Nat) (b : Bool) : (mkk N K b).set K true = mkk N K true := by unfold mkk; rw [List.set_set]

theorem rep_flat (N : Nat) : (madeCells (nv 0 0).cells (N * 2)).toList = (List.replicate N ((0 : Int), (0 : Int))).flatMap f2 := by
  have hc : (nv 0 0).cells = #[.int .i64 0, .int .i64 0] := rfl
  have h2 : (List.replicate N ((0 : Int), (0 : Int))).flatMap f2 = List.replicate (N * 2) (.int .i64 0) := by
    induction N with
    | zero => rfl
    | succ N ih =>
      rw [List.replicate_succ, List.flatMap_cons, ih]
      have : (N + 1) * 2 = N * 2 + 1 + 1 := by omega
      rw [this, List.replicate_succ, List.replicate_succ]
      rfl
  rw [h2, hc]
  apply List.ext_getElem?
  intro j
  by_cases hj : j < N * 2
  · have hm : j % 2 = 0 ∨ j % 2 = 1 := by omega
    rcases hm with hm | hm <;> simp [madeCells, hj, hm]
  · simp [madeCells, hj]

/-- Set of the one. -/
theorem set_one {p : Nat} {pv cv : Value} {N K : Nat} {x : Int × Int} {b : Bool} {w : World} (hK : K < N) (h : Mp 63 33 p pv cv (pl N K x) (mkk N K b) w) (l t : Int) :
    Calls Try.prog 12 #[pt p, .int .i64 K, nv l t] w fun e w' => e = .returned (.bool (decide (0 ≤ l ∧ 0 ≤ t))) ∧ ((0 ≤ l ∧ 0 ≤ t) → Mp 63 33 p pv cv (pl N K (l, t)) (mkk N K true) w') ∧ (¬ (0 ≤ l ∧ 0 ≤ t) → Mp 63 33 p pv cv (pl N K x) (mkk N K b) w') ∧ Chg (Ft p pv cv) w w' := by
  refine (set_any h K l t).mono ?_
  rintro e w' ⟨rfl, M, k⟩
  have hm : may (pl N K x).length K l t = decide (0 ≤ l ∧ 0 ≤ t) := by
    rw [pl_length]
    unfold may
    have h1 : (0 : Int) ≤ K ∧ (K : Int) < N := by omega
    simp [h1]
  refine ⟨by rw [hm], fun hg => ?_, fun hg => ?_, k⟩
  · have hd : may (pl N K x).length K l t = true := by rw [hm]; simpa using hg
    have e1 : setP (pl N K x) K l t = pl N K (l, t) := by unfold setP; rw [if_pos hd, Int.toNat_natCast, pl_set]
    have e2 : setC (pl N K x).length (mkk N K b) K l t = mkk N K true := by unfold setC; rw [if_pos hd, Int.toNat_natCast, mkk_set]
    rw [e1, e2] at M
    exact M
  · have hd : may (pl N K x).length K l t = false := by rw [hm]; simpa using hg
    have e1 : setP (pl N K x) K l t = pl N K x := by unfold setP; rw [hd]; rfl
    have e2 : setC (pl N K x).length (mkk N K b) K l t = mkk N K b := by unfold setC; rw [hd]; rfl
    rw [e1, e2] at M
    exact M

/-- What holds ahead of each round: the last place, whether it was Set. -/
structure In (w : World) (p B : Nat) (pv cv : Value) (N K : Nat) (l t : Int) (b : Bool) (wr : World) : Prop where
  mp : Mp 63 33 p pv cv (pl N K (l, t)) (mkk N K b) wr
  box : wr.heap[B]? = some (.cells #[.int .i64 l, .int .i64 t] 33 (0, 0))
  ft : ∀ k, Ft p pv cv k → w.heap.size ≤ k ∧ k < B
  bw : w.heap.size ≤ B
  chg : Chg no w wr
  l0 : 0 ≤ l
  t0 : 0 ≤ t

theorem In.call {w wr w' : World} {p B : Nat} {pv cv : Value} {N K : Nat} {l t l' t' : Int} {b b' : Bool} (h : In w p B pv cv N K l t b wr) (M : Mp 63 33 p pv cv (pl N K (l', t')) (mkk N K b') w') (k : Chg (Ft p pv cv) wr w') (h1 : 0 ≤ l') (h2 : 0 ≤ t') :
    w'.heap[B]? = some (.cells #[.int .i64 l, .int .i64 t] 33 (0, 0)) ∧ Chg no w w' ∧ ∀ W, Chg (fun j => j = B) w' W → W.heap[B]? = some (.cells #[.int .i64 l', .int .i64 t'] 33 (0, 0)) → In w p B pv cv N K l' t' b' W := by
  have hb := k.heap h.box (fun e => by have := (h.ft B e).2; omega)
  have hc := new_chg h.chg k (fun j hj => (h.ft j hj).1)
  refine ⟨hb, hc, fun W kW hW => ⟨M.chg kW (fun j hj e => by have := (h.ft j hj).2; omega), hW, h.ft, h.bw, hc.trans kW (fun j hj => .inr (by rw [hj]; exact h.bw)), h1, h2⟩⟩

theorem In.same {w wr w' : World} {p B : Nat} {pv cv : Value} {N K : Nat} {l t : Int} {b : Bool} (h : In w p B pv cv N K l t b wr) (k : Chg no wr w') : In w p B pv cv N K l t b w' :=
  ⟨h.mp.same k, k.heap h.box id, h.ft, h.bw, h.chg.then k, h.l0, h.t0⟩

theorem box_cells {wr : World} {B : Nat} {l t : Int} (h : wr.heap[B]? = some (.cells #[.int .i64 l, .int .i64 t] 33 (0, 0))) : wr.cell? ⟨B, 0, none⟩ = some (.int .i64 l) ∧ wr.cell? ⟨B, 1, none⟩ = some (.int .i64 t) ∧ wr.frozen? ⟨B, 0, none⟩ = false ∧ wr.frozen? ⟨B, 1, none⟩ = false ∧ B < wr.heap.size := by
  refine ⟨?_, ?_, ?_, ?_, lt_of_block h⟩ <;> simp [World.cell?, World.frozen?, h]

set_option maxHeartbeats 2000000 in
theorem early (w : World) (n d : Int) (a : Option Addr) (len cap : Nat) (hh : n < 1 ∨ 60 < n ∨ d < 0 ∨ n ≤ d ∨ 100 < len) :
    Calls Try.prog 6 #[.int .i64 n, .int .i64 d, .slice a len cap] w fun e w' => e = .returned (.bool true) ∧ Below w.heap.size w w' := by
  have hc : n < 1 ∨ (1 ≤ n ∧ 60 < n) ∨ (1 ≤ n ∧ n ≤ 60 ∧ d < 0) ∨ (1 ≤ n ∧ n ≤ 60 ∧ 0 ≤ d ∧ n ≤ d) ∨ (1 ≤ n ∧ n ≤ 60 ∧ 0 ≤ d ∧ d < n ∧ (100 : Int) < len) := by omega
  clear hh
  rcases hc with h1 | ⟨h1, h2⟩ | ⟨h1, h2, h3⟩ | ⟨h1, h2, h3, h4⟩ | ⟨h1, h2, h3, h4, h5⟩
  all_goals
    go_enter Try.func6, Try.ntmps6
    go_wp2_with fail
    refine (first_any _).mono ?_
    rintro e w1 ⟨rfl, k1⟩
    go_wp2_with fail
    refine (first_any _).mono ?_
    rintro e w3 ⟨rfl, k3⟩
    go_wp2
    go_ret
    exact ⟨rfl, (k1.then k3).below⟩

set_option maxRecDepth 100000 in
set_option maxHeartbeats 8000000 in
theorem late (w : World) (N K : Nat) (a : Option Addr) (cap : Nat) (ls : List (Int × Int)) (hL : Lie (Old w) w (.slice a ls.length cap) ls.length (ls.flatMap f2)) (hN : N ≤ 60) (hK : K < N) (hl : ls.length ≤ 100) :
    Calls Try.prog 6 #[.int .i64 N, .int .i64 K, .slice a ls.length cap] w fun e w' => e = .returned (.bool true) ∧ Below w.heap.size w w' := by
  obtain ⟨i0, hi, hz0, hz1, hz2⟩ := info_parts' info33
  have HL : Hid (∀ W, Chg no w W → ∀ k l t, ls[k]? = some (l, t) → ∃ y, a = some y ∧ W.cell? (y.add (k * 2)) = some (.int .i64 l) ∧ W.cell? ⟨(y.add (k * 2)).block, (y.add (k * 2)).off + 1, none⟩ = some (.int .i64 t) ∧ y.block < w.heap.size) := by
    intro W kk k l t e
    obtain ⟨y, e1, e4, e2, e3⟩ := (hL.same kk).at2 e
    exact ⟨y, e1, e2, e3, e4⟩
  obtain ⟨n, hn⟩ : ∃ n, ls.length = n := ⟨_, rfl⟩
  have HNN : Hid (ls.length = n) := hn
  rw [hn] at hl ⊢
  have i1 : (1 : Int) ≤ N := by omega
  have i2 : (N : Int) ≤ 60 := by omega
  have i3 : (K : Int) < N := by omega
  have i4 : (n : Int) ≤ 100 := by omega
  clear hL hn
  go_enter Try.func6, Try.ntmps6
  go_wp2_with fail
  refine (first_any _).mono ?_
  rintro e w1 ⟨rfl, k1⟩
  go_wp2_with (at_make; refine wpList_make_full _ rfl _ _ 22 rfl w1.heap.size 33 i0 (nv 0 0) 2 Try.underlying22 hi hz0 hz1 .i64 .i64 N N N rfl rfl rfl rfl ?c1 ?c2 ?c3 ?_)
  case c1 => rw [hz2]; omega
  case c2 => unfold maxLen; omega
  case c3 => omega
  intro w2 hown hg
  have k2 : Chg no w1 w2 := (Chg.refl no w1).grown hg (by simp)
  have HNW := new_any w2 (.slice (some ⟨w1.heap.size, 0, none⟩) N N) (List.replicate N (0, 0)) (J := fun _ => True) (by
    rw [List.length_replicate]
    exact Lie.of_owns (by rw [← rep_flat]; exact hown) (fun _ _ => trivial)) (by rw [List.length_replicate]; omega)
  have s1 := k1.size
  have s2 := k2.size
  clear hown hg
  go_wp2_with fail
  refine HNW.mono ?_
  rintro e w3 ⟨r, rfl, p, pv, cv, rfl, M3, k3, hf3⟩
  have K3 := (k1.then k2).then k3
  have HI : Hid (In w p w3.heap.size pv cv N K 0 0 false (w3.alloc (.cells #[.int .i64 0, .int .i64 0] 33))) := by
    rw [List.length_replicate] at M3
    have M4 := M3.same ((Chg.refl no w3).alloc (.cells #[.int .i64 0, .int .i64 0] 33))
    rw [← pl_zero N K, ← mkk_false N K] at M4
    exact ⟨M4, heap_alloc_new _ _, fun k hk => ⟨by have := hf3 k hk; omega, M3.lt k hk⟩, K3.size, K3.alloc _, Int.le_refl _, Int.le_refl _⟩
  clear HNW M3 k1 k2 k3 hf3 s1 s2 K3 hi hz0 hz1 hz2
  go_wp2_with fail
  obtain ⟨B, hB⟩ : ∃ B, w3.heap.size = B := ⟨_, rfl⟩
  obtain ⟨w4, hw4⟩ : ∃ w4, w3.alloc (.cells #[.int .i64 0, .int .i64 0] 33) = w4 := ⟨_, rfl⟩
  rw [hB, hw4] at HI
  simp only [hB, hw4]
  clear hB hw4
  go_loopw [9, 10] (fun s i wr => ∃ (j : Nat) (l t : Int) (b : Bool), j ≤ n ∧ i = .int .i64 (j : Int) ∧ s = .bool b ∧ In w p B pv cv N K l t b wr) (fun _ i _ => n - (intOf i).toNat)
  case atStart => exact ⟨0, 0, 0, false, by omega, rfl, rfl, HI.out⟩
  case round =>
    clear HI
    obtain ⟨j, l, t, b, hj, rfl, rfl, hI⟩ := hrel
    by_cases hjn : j < n
    · have hji : (j : Int) < n := by omega
      have hjl : j < ls.length := by rw [HNN.out]; exact hjn
      obtain ⟨⟨l', t'⟩, hlt⟩ : ∃ x, ls[j]? = some x := ⟨_, List.getElem?_eq_getElem hjl⟩
      obtain ⟨y, rfl, e0, e1, hyo⟩ := HL.out wr hI.chg j l' t' hlt
      have HE : Hid (∀ W, Chg no w W → W.cell? (y.add (j * 2)) = some (.int .i64 l') ∧ W.cell? ⟨(y.add (j * 2)).block, (y.add (j * 2)).off + 1, none⟩ = some (.int .i64 t')) := by
        intro W kW
        obtain ⟨y', e, q0, q1, _⟩ := HL.out W kW j l' t' hlt
        cases e
        exact ⟨q0, q1⟩
      have HS := set_one hK hI.mp l' t'
      have HIn : Hid (In w p B pv cv N K l t b wr) := hI
      clear hlt hjl hI hyo
      have hc : (0 ≤ l' ∧ 0 ≤ t') ∨ (l' < 0 ∧ ¬ (0 ≤ l' ∧ 0 ≤ t')) ∨ (0 ≤ l' ∧ t' < 0 ∧ ¬ (0 ≤ l' ∧ 0 ≤ t')) := by omega
      rcases hc with ⟨g1, g2⟩ | ⟨g1, g3⟩ | ⟨g1, g2, g3⟩
      · rw [decide_eq_true (And.intro g1 g2)] at HS
        go_wp2_with fail
        refine HS.mono ?_
        rintro e w5 ⟨rfl, M5, _, k5⟩
        obtain ⟨b5, K5, hin⟩ := HIn.out.call (M5 ⟨g1, g2⟩) k5 g1 g2
        obtain ⟨x0, x1, x2, x3, x4⟩ := box_cells b5
        obtain ⟨q0, q1⟩ := HE.out w5 K5
        have HF : Hid (In w p B pv cv N K l' t' true ((w5.setCell ⟨B, 0, none⟩ (.int .i64 l')).setCell ⟨B, 1, none⟩ (.int .i64 t'))) := by
          refine hin _ ?_ ?_
          · have c1 : Chg (fun j => j = B) w5 (w5.setCell ⟨B, 0, none⟩ (.int .i64 l')) := (Chg.refl _ w5).setCell _ _ (.inl rfl)
            exact c1.setCell _ _ (.inl rfl)
          · have r1 : (w5.setCell ⟨B, 0, none⟩ (.int .i64 l')).heap[B]? = some (.cells [.int .i64 l', .int .i64 t].toArray 33 (0, 0)) := row_set (xs := [_, _]) b5 0 _
            exact row_set r1 1 _
        clear HS M5 k5 hin b5 e0 e1 K5
        go_wp2
        go_roundw
        case rel => exact ⟨j + 1, l', t', true, by omega, by go_num, rfl, HF.out⟩
        case measure => simp [intOf]; omega
      all_goals
        rw [decide_eq_false g3] at HS
        have HG : Hid (¬ (0 ≤ l' ∧ 0 ≤ t')) := g3
        clear g3
        go_wp2_with fail
        refine HS.mono ?_
        rintro e w5 ⟨rfl, _, M5, k5⟩
        obtain ⟨b5, K5, hin⟩ := HIn.out.call (M5 HG.out) k5 HIn.out.l0 HIn.out.t0
        have HF : Hid (In w p B pv cv N K l t b w5) := hin _ (Chg.refl _ w5) b5
        clear HS M5 k5 hin b5 e0 e1 K5
        go_wp2
        go_roundw
        case rel => exact ⟨j + 1, l, t, b, by omega, by go_num, rfl, HF.out⟩
        case measure => simp [intOf]; omega
    · obtain rfl : j = n := by omega
      have hji : (j : Int) ≤ j := by omega
      have HG := get_any hI.mp K
      have hid : isId (pl N K (l, t)).length (K : Int) = true := by
        rw [pl_length]
        unfold isId
        simp
        omega
      have hgp : getP (pl N K (l, t)) (K : Int) = (l, t) := by
        unfold getP
        rw [hid, if_pos rfl, Int.toNat_natCast, pl_get hK]
      rw [hid, hgp] at HG
      have HIn : Hid (In w p B pv cv N K l t b wr) := hI
      clear hid hgp hI
      go_wp2_with fail
      refine HG.mono ?_
      rintro e w5 ⟨rfl, k5⟩
      have HI5 : Hid (In w p B pv cv N K l t b (w5.alloc (.cells #[.int .i64 l, .int .i64 t] 33))) := In.same HIn.out (k5.alloc _)
      have HC := changes_any (In.mp HI5.out) (by rw [pl_length]; omega)
      rw [pl_length, told_one hK] at HC
      have hkt : (K < N ∧ b = true) ↔ b = true := by constructor; exact fun h => h.2; exact fun h => ⟨hK, h⟩
      simp only [hkt] at HC
      clear HG HIn hkt k5
      go_wp2_with fail
      refine HC.mono ?_
      rintro e w6 ⟨v6, rfl, N6⟩
      have HI6 : Hid (In w p B pv cv N K l t b w6) := In.same HI5.out N6.2
      have hbx : (w5.alloc (.cells #[.int .i64 l, .int .i64 t] 33)).heap[w5.heap.size]? = some (.cells #[.int .i64 l, .int .i64 t] 33 (0, 0)) := heap_alloc_new _ _
      obtain ⟨y0, y1, _, _, y4⟩ := box_cells (N6.2.heap hbx id)
      obtain ⟨x0, x1, _, _, x4⟩ := box_cells (In.box HI6.out)
      obtain ⟨Y, hY⟩ : ∃ Y, w5.heap.size = Y := ⟨_, rfl⟩
      rw [hY] at y0 y1 y4
      simp only [hY]
      clear hbx hY HI5 HC
      have hq : ∀ w, (binOp .neq 33 (.agg #[.int .i64 l, .int .i64 t]) (.agg #[.int .i64 l, .int .i64 t])).run Try.prog w = .ok (.bool false) w := fun w => by
        rw [neq33]
        simp
      have hg := fun w op x y xs ys => eqg33 op x y xs ys w
      cases b
      · obtain ⟨a6, c6, rfl⟩ := N6.shape
        simp only [Bool.false_eq_true, if_false, List.length_nil]
        clear N6
        go_wp2_with fail
        go_quiet (fail)
        go_wp2_with fail
        refine (settle_any (Mp.same (In.mp HI6.out) ((Chg.refl no w6).drewN _))).mono ?_
        rintro e w7 ⟨rfl, M7, k7⟩
        rw [pl_length, ← mkk_false N K] at M7
        obtain ⟨b7, K7, hin⟩ := In.call (In.same HI6.out ((Chg.refl no w6).drewN _)) M7 k7 (In.l0 HI6.out) (In.t0 HI6.out)
        have HI7 : Hid (In w p B pv cv N K l t false w7) := hin _ (Chg.refl _ w7) b7
        clear M7 k7 b7 K7 hin x0 x1 x4 y0 y1 y4
        go_wp2_with fail
        refine (first_any _).mono ?_
        rintro e w8 ⟨rfl, k8⟩
        have HI8 : Hid (In w p B pv cv N K l t false w8) := In.same HI7.out k8
        have HC8 := changes_any (In.mp HI8.out) (by rw [pl_length]; omega)
        rw [mkk_false, told_none] at HC8
        clear k8 HI7
        go_wp2_with fail
        refine HC8.mono ?_
        rintro e w9 ⟨v9, rfl, N9⟩
        have HI9 : Hid (In w p B pv cv N K l t false w9) := In.same HI8.out N9.2
        obtain ⟨a9, c9, rfl⟩ := N9.shape
        simp only [List.length_nil]
        obtain ⟨x0, x1, _, _, x4⟩ := box_cells (In.box HI9.out)
        have HS9 := set_one hK (In.mp HI9.out) l t
        rw [decide_eq_true (And.intro (In.l0 HI9.out) (In.t0 HI9.out))] at HS9
        clear HC8 N9 HI8
        go_wp2_with fail
        refine HS9.mono ?_
        rintro e w10 ⟨rfl, M10, _, k10⟩
        obtain ⟨b10, K10, _⟩ := In.call HI9.out (M10 ⟨In.l0 HI9.out, In.t0 HI9.out⟩) k10 (In.l0 HI9.out) (In.t0 HI9.out)
        have HC10 := changes_any (M10 ⟨In.l0 HI9.out, In.t0 HI9.out⟩) (by rw [pl_length]; omega)
        rw [pl_length, told_one hK, if_pos ⟨hK, rfl⟩] at HC10
        have HK10 : Hid _ := K10
        clear HS9 M10 k10 b10 K10 x0 x1 x4 HI9
        go_wp2_with fail
        refine HC10.mono ?_
        rintro e w11 ⟨v11, rfl, N11⟩
        obtain ⟨a11, c11, rfl⟩ := N11.shape
        have HK11 : Hid (Chg no w w11) := Chg.then HK10.out N11.2
        simp only [List.length_cons, List.length_nil, Nat.reduceAdd]
        clear HC10 N11 HK10
        go_wp2
        go_ret
        exact ⟨rfl, (Chg.below HK11.out)⟩
      · obtain ⟨g, c, rfl, _, q0, q1, q2⟩ := cell3 N6 (i := 0) rfl
        simp only [if_true, List.length_cons, List.length_nil, Nat.zero_mul, Nat.zero_add] at q0 q1 q2 ⊢
        clear N6
        go_wp2_with fail
        go_quiet (fail)
        go_wp2_with fail
        refine (settle_any (Mp.same (In.mp HI6.out) ((Chg.refl no w6).drewN _))).mono ?_
        rintro e w7 ⟨rfl, M7, k7⟩
        rw [pl_length, ← mkk_false N K] at M7
        obtain ⟨b7, K7, hin⟩ := In.call (In.same HI6.out ((Chg.refl no w6).drewN _)) M7 k7 (In.l0 HI6.out) (In.t0 HI6.out)
        have HI7 : Hid (In w p B pv cv N K l t false w7) := hin _ (Chg.refl _ w7) b7
        clear M7 k7 b7 K7 hin x0 x1 x4 y0 y1 y4
        go_wp2_with fail
        refine (first_any _).mono ?_
        rintro e w8 ⟨rfl, k8⟩
        have HI8 : Hid (In w p B pv cv N K l t false w8) := In.same HI7.out k8
        have HC8 := changes_any (In.mp HI8.out) (by rw [pl_length]; omega)
        rw [mkk_false, told_none] at HC8
        clear k8 HI7
        go_wp2_with fail
        refine HC8.mono ?_
        rintro e w9 ⟨v9, rfl, N9⟩
        have HI9 : Hid (In w p B pv cv N K l t false w9) := In.same HI8.out N9.2
        obtain ⟨a9, c9, rfl⟩ := N9.shape
        simp only [List.length_nil]
        obtain ⟨x0, x1, _, _, x4⟩ := box_cells (In.box HI9.out)
        have HS9 := set_one hK (In.mp HI9.out) l t
        rw [decide_eq_true (And.intro (In.l0 HI9.out) (In.t0 HI9.out))] at HS9
        clear HC8 N9 HI8
        go_wp2_with fail
        refine HS9.mono ?_
        rintro e w10 ⟨rfl, M10, _, k10⟩
        obtain ⟨b10, K10, _⟩ := In.call HI9.out (M10 ⟨In.l0 HI9.out, In.t0 HI9.out⟩) k10 (In.l0 HI9.out) (In.t0 HI9.out)
        have HC10 := changes_any (M10 ⟨In.l0 HI9.out, In.t0 HI9.out⟩) (by rw [pl_length]; omega)
        rw [pl_length, told_one hK, if_pos ⟨hK, rfl⟩] at HC10
        have HK10 : Hid _ := K10
        clear HS9 M10 k10 b10 K10 x0 x1 x4 HI9
        go_wp2_with fail
        refine HC10.mono ?_
        rintro e w11 ⟨v11, rfl, N11⟩
        obtain ⟨a11, c11, rfl⟩ := N11.shape
        have HK11 : Hid (Chg no w w11) := Chg.then HK10.out N11.2
        simp only [List.length_cons, List.length_nil, Nat.reduceAdd]
        clear HC10 N11 HK10
        go_wp2
        go_ret
        exact ⟨rfl, (Chg.below HK11.out)⟩

theorem walk (w : World) (n d : Int) (a : Option Addr) (len cap : Nat) (ls : List (Int × Int)) (w0 : (Lit.int .i64 n).wf = true) (w1 : (Lit.int .i64 d).wf = true) (w2 : ls.length = len ∧ Lie (Old w) w (.slice a len cap) ls.length (ls.flatMap f2)) (c2 : len ≤ cap ∧ cap ≤ maxLen) :
    Calls Try.prog 6 #[.int .i64 n, .int .i64 d, .slice a len cap] w fun e w' => e = .returned (.bool true) ∧ Below w.heap.size w w' := by
  by_cases hh : n < 1 ∨ 60 < n ∨ d < 0 ∨ n ≤ d ∨ 100 < len
  · exact early w n d a len cap hh
  · obtain ⟨N, rfl⟩ := Int.eq_ofNat_of_zero_le (show 0 ≤ n by omega)
    obtain ⟨K, rfl⟩ := Int.eq_ofNat_of_zero_le (show 0 ≤ d by omega)
    obtain ⟨rfl, hL⟩ := w2
    exact late w N K a cap ls hL (by omega) (by omega) (by omega)

theorem own : ownKnob Try.prog.godebug = none := by kernel_rfl
theorem laidOut : laidOutB Try.prog = true := by kernel_rfl

set_option maxRecDepth 100000 in
theorem lifted (os : Os) (started : os.Started) (H : Type) (enc : TypeId × Value → H) :
    ReturnsInHanded {} Try.checked os 6 .any (Rows.posLastSpec.pre6 enc Try.prog Try.f6 Rows.posLastRow.domain false) (Rows.posLastSpec.post enc Try.prog Try.f6 false true false false) := by
  refine returnsInHanded_of_change (C := Try.checked) own started (by kernel_rfl) Try.func6
    (ChangeSpec.witness6 (enc := enc) (C := Try.checked) false ⟨#[], #[.int .i64 0, .int .i64 0, .slice none 0 0], []⟩ 8 (by kernel_rfl) (by kernel_rfl) (by kernel_rfl) (by kernel_rfl)) ?_
  intro W base args ds gs before hval0 hW hcnd _
  have hval : ∀ (j : Nat) t v, Try.f6.params[j]? = some t → args[j]? = some v → Value.okWide Try.prog W .any base t v := hval0
  have hW' := hW
  obtain ⟨p, q, hA0, hV, rfl, hfz, hnd⟩ := hW
  have hA : DataW.TrodAll enc Try.prog W 0 (fun _ => true) true Try.f6.params.toList args.toList ds p := hA0
  rw [Try.params6] at hA hval
  obtain ⟨v0, vs0, d0, ds0, p0, q0, hargs, rfl, rfl, h0, r0⟩ := trodAll_cons hA
  obtain ⟨v1, vs1, d1, ds1, p1, q1, rfl, rfl, rfl, h1, r1⟩ := trodAll_cons r0
  obtain ⟨v2, vs2, d2, ds2, p2, q2, rfl, rfl, rfl, h2, r2⟩ := trodAll_cons r1
  obtain ⟨rfl, rfl, rfl⟩ := trodAll_nil r2
  obtain rfl : args = #[v0, v1, v2] := by cases args; simp_all
  obtain ⟨rfl, rfl⟩ := trodVars_none hV
  obtain ⟨a0, rfl, rfl, rfl, w0⟩ := open_int Try.underlying3 (hval 0 3 v0 rfl rfl) h0
  obtain ⟨a1, rfl, rfl, rfl, w1⟩ := open_int Try.underlying3 (hval 1 3 v1 rfl rfl) h1
  obtain ⟨a2, len2, cap2, rfl⟩ := okWide_slice Try.underlying22 (hval 2 22 v2 rfl rfl)
  have k2 := h2
  have lt2 : ∀ x ∈ p2, x.block < W.heap.size := by obtain ⟨m, hm⟩ := k2; exact DataW.trod_lt m _ _ _ hm
  have c2 : len2 ≤ cap2 ∧ cap2 ≤ maxLen := by obtain ⟨m, hm⟩ := k2; exact open_cap Try.underlying22 hm
  obtain ⟨z2, w2⟩ := (by obtain ⟨fuel, hf⟩ := h2; exact open_places hf : ∃ z : List (Int × Int), z.length = len2 ∧ Lie (Old W) W (.slice a2 len2 cap2) z.length (z.flatMap f2))
  clear hA0 hval0
  refine (walk W a0 a1 a2 len2 cap2 z2 w0 w1 w2 c2).mono fun e W' ⟨he, bel⟩ => ?_
  subst he
  exact ⟨_, rfl, _, _, _, [], _, [], hW', trodAll_mk1 (shut_bool Try.underlying4 _), (trodAll_cons_mk (shut_int Try.underlying3 w0) (trodAll_cons_mk (shut_int Try.underlying3 w1) (trodAll_cons_mk (Below.trod laidOut (by kernel_rfl) (of_decide_eq_true (by kernel_rfl)) k2 bel lt2) trodAll_mk0))), rfl, bel.frame _, fun h => by cases h⟩

theorem over : Rows.posLastRow.holds Try.pinned (OpenSpec.ofChange Rows.posLastSpec) :=
  OpenClaim.holds_of_wide 6 Try.f6 rfl rfl rfl rfl rfl rfl rfl ⟨rfl, rfl, rfl, rfl, rfl⟩ rfl rfl rfl rfl rfl (by kernel_rfl) Try.func6 (by kernel_rfl)
    (of_decide_eq_true (by kernel_rfl)) (by unfold Func.isWrapper; first | (rw [if_pos (by decide +kernel)]; kernel_rfl) | (rw [if_neg (by decide +kernel)]; exact ⟨rfl, rfl⟩))
    (fun os started H enc _ => lifted os started H enc)

theorem proved : Rows.PosLastSaid := over
#print axioms proved
end Go.Proofs.Ytocbmjkbbbmncaa.posLast
namespace Go.Proofs.Ytocbmjkbbbmncaa
theorem posLast_holds : Rows.PosLastSaid := posLast.proved
#print axioms posLast_holds
end Go.Proofs.Ytocbmjkbbbmncaa
