/- Contracts of Changes and of the document's, and of the law's Places and Changes. -/
import Derived.Test.YtocbmjkbbbmncaaRmk
namespace Go.Proofs.Ytocbmjkbbbmncaa.st
open Go.ChangeShapes Go.WideShapes Go.ChangeAt Go.RowKit Go.Proofs.Ytocbmjkbbbmncaa.hp
set_option linter.unusedVariables false

abbrev cz : Value := .agg #[.int .i64 0, .int .i64 0, .int .i64 0]
theorem info58z : (Try.prog.info? 58).map (fun i => (i.zero, i.size, i.bytes)) = some (some cz, 3, 24) := by kernel_rfl
theorem info65z : (Try.prog.info? 65).map (fun i => (i.zero, i.size, i.bytes)) = some (some cz, 3, 24) := by kernel_rfl

/-- The changes among the first k. -/
def told (ps : List (Int × Int)) (ch : List Bool) : Nat → List (Int × Int × Int)
  | 0 => []
  | k + 1 => if ch.getD k false = true then told ps ch k ++ [((k : Int), ps.getD k (0, 0))] else told ps ch k

theorem told_len (ps : List (Int × Int)) (ch : List Bool) (k : Nat) : (told ps ch k).length ≤ k := by
  induction k with
  | zero => simp [told]
  | succ k ih =>
    rw [told]
    split
    · simp
      omega
    · omega

theorem news_at {w : World} {xs : List Value} {t : TypeId} : ∀ (j : Nat) (u : Value), xs[j]? = some u → (w.alloc (.cells xs.toArray t)).cell? ((⟨w.heap.size, 0, none⟩ : Addr).add j) = some u := by
  intro j u hu
  rw [Addr.add_lit, Nat.zero_add]
  exact (row_cell (heap_alloc_new w _) j u hu).1

theorem ints_one (xs : List Int) : ∀ u ∈ xs.map (Value.int .i64), u.oneCell' = true := by
  intro u hu
  obtain ⟨x, _, rfl⟩ := List.mem_map.1 hu
  rfl

theorem one_i2 (a b : Int) : ∀ u ∈ ([.int .i64 a, .int .i64 b] : List Value), u.oneCell' = true := ints_one [a, b]
theorem one_i3 (a b c : Int) : ∀ u ∈ ([.int .i64 a, .int .i64 b, .int .i64 c] : List Value), u.oneCell' = true := ints_one [a, b, c]

/-- A row of the call's own, ready to grow. -/
theorem ready {α : Type} {e : TypeId} {s : Nat} {f : α → List Value} {w wr : World} {xs : List α} {v : Value} (h : NewR e s f w xs v wr) :
    ∃ a c n XS, v = .slice a n c ∧ n = xs.length ∧ (∀ W, Chg no wr W → W.ownsRow 0 e s (.slice a n c) n XS) ∧
      ∀ (x : α) (W : World) (v' : Value) (w3 : World), Chg no wr W → w3.ownsRow 0 e s v' (n + 1) (XS ++ f x) → W.grownBy w3 (Value.slice a n c).ownBlock → (∀ b, v'.ownBlock = some b → (Value.slice a n c).ownBlock = some b ∨ W.heap.size ≤ b) → NewR e s f w (xs ++ [x]) v' w3 := by
  obtain ⟨a, c, rfl⟩ := h.shape
  exact ⟨a, c, _, _, rfl, rfl, fun W k => owns_base (k.owns h.1 (fun _ _ h => h)) (Nat.zero_le _), fun x W v' w3 k o g p => h.add k x o g p⟩

theorem mp_marks {T E : TypeId} {p : Nat} {pv cv : Value} {ps : List (Int × Int)} {ch : List Bool} {w : World} (h : Mp T E p pv cv ps ch w) :
    ∃ a c, cv = .slice a ps.length c ∧ ∀ k, k < ps.length → ∃ g, a = some ⟨g, 0, none⟩ ∧ w.cell? ⟨g, k, none⟩ = some (.bool (ch.getD k false)) := by
  obtain ⟨a, c, hcv⟩ := h.shape.2
  refine ⟨a, c, hcv, fun k hk => ?_⟩
  have hkc : k < ch.length := by rw [h.len]; exact hk
  obtain ⟨g, c2, e, h1, _⟩ := h.mark_at (List.getElem?_eq_getElem hkc)
  rw [hcv] at e
  cases e
  refine ⟨g, rfl, ?_⟩
  rw [h1, List.getD_eq_getElem?_getD, List.getElem?_eq_getElem hkc]
  rfl

theorem mp_places {T E : TypeId} {p : Nat} {pv cv : Value} {ps : List (Int × Int)} {ch : List Bool} {w : World} (h : Mp T E p pv cv ps ch w) :
    ∃ a c, pv = .slice a ps.length c ∧ ∀ k, k < ps.length → ∃ g, a = some ⟨g, 0, none⟩ ∧ w.cell? ⟨g, k * 2, none⟩ = some (.int .i64 (ps.getD k (0, 0)).1) ∧ w.cell? ⟨g, k * 2 + 1, none⟩ = some (.int .i64 (ps.getD k (0, 0)).2) := by
  obtain ⟨a, c, hpv⟩ := h.shape.1
  refine ⟨a, c, hpv, fun k hk => ?_⟩
  obtain ⟨g, c2, e, h1, h2, _⟩ := h.at (List.getElem?_eq_getElem hk : ps[k]? = some (ps[k].1, ps[k].2))
  rw [hpv] at e
  cases e
  refine ⟨g, rfl, ?_, ?_⟩
  · rw [h1, List.getD_eq_getElem?_getD, List.getElem?_eq_getElem hk]
    rfl
  · rw [h2, List.getD_eq_getElem?_getD, List.getElem?_eq_getElem hk]
    rfl

set_option maxHeartbeats 1000000 in
theorem changes_any {p : Nat} {pv cv : Value} {ps : List (Int × Int)} {ch : List Bool} {w : World} (h : Mp 63 33 p pv cv ps ch w) (hl : ps.length ≤ 100000) :
    Calls Try.prog 25 #[pt p] w fun e w' => ∃ v, e = .returned v ∧ NewR 58 3 f3 w (told ps ch ps.length) v w' := by
  obtain ⟨i0, hi, hz0, hz1, hz2⟩ := info_parts' info58z
  obtain ⟨c0, c1, _, hp⟩ := h.cells
  obtain ⟨ap, cp, rfl, hP⟩ := mp_places h
  obtain ⟨ac, cc, rfl, hC⟩ := mp_marks h
  obtain ⟨n, hn⟩ : ∃ n, ps.length = n := ⟨_, rfl⟩
  rw [hn] at c0 c1 hP hC hl ⊢
  have HP : Hid _ := hP
  have HC : Hid _ := hC
  have HCL : Hid (∀ W, Chg no w W → W.cell? ⟨p, 0, none⟩ = some (.slice ap n cp) ∧ p < W.heap.size) := fun W k => ⟨k.cell c0 id, Nat.lt_of_lt_of_le hp k.size⟩
  have hni : (n : Int) ≤ 100000 := by omega
  clear h hn hP hC c0
  go_enter Try.func25, Try.ntmps25
  go_wp2_with fail
  go_loopw [3, 11] (fun v i wr => ∃ k : Nat, k ≤ n ∧ i = .int .i64 (k : Int) ∧ NewR 58 3 f3 w (told ps ch k) v wr) (fun _ i _ => n - (intOf i).toNat)
  case atStart => exact ⟨0, by omega, rfl, NewR.nil (Chg.refl no w)⟩
  case round =>
    obtain ⟨k, hk, rfl, hN⟩ := hrel
    obtain ⟨a, c, m, XS, rfl, hm, ho, ha⟩ := ready hN
    have hml : m ≤ k := by rw [hm]; exact told_len ps ch k
    by_cases hkn : k < n
    · have hki : (k : Int) < n := by omega
      obtain ⟨g', rfl, m0⟩ := HC.out k hkn
      obtain ⟨g, rfl, q0, q1⟩ := HP.out k hkn
      obtain ⟨d0, d1⟩ := HCL.out wr hN.2
      have m1 := hN.2.cell m0 id
      have q2 := hN.2.cell q0 id
      have q3 := hN.2.cell q1 id
      have HS : Hid (told ps ch (k + 1) = if ch.getD k false = true then told ps ch k ++ [((k : Int), ps.getD k (0, 0))] else told ps ch k) := rfl
      obtain ⟨b, hb⟩ : ∃ b, ch.getD k false = b := ⟨_, rfl⟩
      obtain ⟨⟨l, t⟩, hlt⟩ : ∃ x, ps.getD k (0, 0) = x := ⟨_, rfl⟩
      rw [hb, hlt] at HS
      rw [hb] at m1
      rw [hlt] at q2 q3
      simp only at q2 q3
      clear m0 q0 q1 hb hlt hm
      have HN : Hid (NewR 58 3 f3 w (told ps ch k) (.slice a m c) wr) := hN
      cases b
      · clear ho ha hN
        have HE : Hid (told ps ch (k + 1) = told ps ch k) := HS.out
        clear HS
        go_wp2
        go_roundw
        case rel => exact ⟨k + 1, by omega, by go_num, by rw [HE.out]; exact HN.out⟩
        case measure => simp [intOf]; omega
      · have HE : Hid (told ps ch (k + 1) = told ps ch k ++ [((k : Int), l, t)]) := HS.out
        have HO : Hid _ := ho
        have HA : Hid _ := ha
        clear HS ho ha hN
        go_wp2_with (at_builtin; refine wpList_append_at rfl _ _ 34 rfl 58 i0 cz 3 24 Try.underlying34 hi hz0 hz1 hz2 rfl (by decide) (.slice a m c) m XS rfl (HO.out _ ((Chg.refl no wr).alloc _)) ⟨wr.heap.size, 0, none⟩ 1 1 [.int .i64 k, .int .i64 l, .int .i64 t] rfl rfl news_at (one_i3 _ _ _) (by unfold maxLen; omega) (by omega) ?_; intro v5 w5 o5 g5 p5; have N5 := HA.out (k, l, t) _ v5 w5 ((Chg.refl no wr).alloc _) o5 g5 p5; obtain ⟨a5, c5, rfl⟩ := owns_shape o5; have HN5 : Hid _ := N5; clear o5 g5 p5 N5)
        go_wp2
        go_roundw
        case rel => exact ⟨k + 1, by omega, by go_num, by rw [HE.out]; exact HN5.out⟩
        case measure => simp [intOf]; omega
    · obtain rfl : k = n := by omega
      have hki : (k : Int) ≤ k := by omega
      clear ho ha
      go_wp2
      go_ret
      exact ⟨_, rfl, hN⟩

set_option maxHeartbeats 1000000 in
theorem rchanges_any {p : Nat} {pv cv : Value} {ps : List (Int × Int)} {ch : List Bool} {w : World} (h : Mp 49 39 p pv cv ps ch w) (hl : ps.length ≤ 100000) :
    Calls Try.prog 26 #[pt p] w fun e w' => ∃ v, e = .returned v ∧ NewR 65 3 f3 w (told ps ch ps.length) v w' := by
  obtain ⟨i0, hi, hz0, hz1, hz2⟩ := info_parts' info65z
  obtain ⟨c0, c1, _, hp⟩ := h.cells
  obtain ⟨ap, cp, rfl, hP⟩ := mp_places h
  obtain ⟨ac, cc, rfl, hC⟩ := mp_marks h
  obtain ⟨n, hn⟩ : ∃ n, ps.length = n := ⟨_, rfl⟩
  rw [hn] at c0 c1 hP hC hl ⊢
  have HP : Hid _ := hP
  have HC : Hid _ := hC
  have HCL : Hid (∀ W, Chg no w W → W.cell? ⟨p, 0, none⟩ = some (.slice ap n cp) ∧ W.cell? ⟨p, 1, none⟩ = some (.slice ac n cc) ∧ p < W.heap.size) := fun W k => ⟨k.cell c0 id, k.cell c1 id, Nat.lt_of_lt_of_le hp k.size⟩
  have hni : (n : Int) ≤ 100000 := by omega
  clear h hn hP hC c0 c1
  go_enter Try.func26, Try.ntmps26
  go_wp2_with fail
  go_loopw [3, 4] (fun v i wr => ∃ k : Nat, k ≤ n ∧ i = .int .i64 (k : Int) ∧ NewR 65 3 f3 w (told ps ch k) v wr) (fun _ i _ => n - (intOf i).toNat)
  case atStart => exact ⟨0, by omega, rfl, NewR.nil (Chg.refl no w)⟩
  case round =>
    obtain ⟨k, hk, rfl, hN⟩ := hrel
    obtain ⟨a, c, m, XS, rfl, hm, ho, ha⟩ := ready hN
    have hml : m ≤ k := by rw [hm]; exact told_len ps ch k
    obtain ⟨d0, d1, d2⟩ := HCL.out wr hN.2
    by_cases hkn : k < n
    · have hki : (k : Int) < n := by omega
      obtain ⟨g', rfl, m0⟩ := HC.out k hkn
      obtain ⟨g, rfl, q0, q1⟩ := HP.out k hkn
      have m1 := hN.2.cell m0 id
      have q2 := hN.2.cell q0 id
      have q3 := hN.2.cell q1 id
      have HS : Hid (told ps ch (k + 1) = if ch.getD k false = true then told ps ch k ++ [((k : Int), ps.getD k (0, 0))] else told ps ch k) := rfl
      obtain ⟨b, hb⟩ : ∃ b, ch.getD k false = b := ⟨_, rfl⟩
      obtain ⟨⟨l, t⟩, hlt⟩ : ∃ x, ps.getD k (0, 0) = x := ⟨_, rfl⟩
      rw [hb, hlt] at HS
      rw [hb] at m1
      rw [hlt] at q2 q3
      simp only at q2 q3
      clear m0 q0 q1 hb hlt hm
      have HN : Hid (NewR 65 3 f3 w (told ps ch k) (.slice a m c) wr) := hN
      cases b
      · clear ho ha hN
        have HE : Hid (told ps ch (k + 1) = told ps ch k) := HS.out
        clear HS
        go_wp2
        go_roundw
        case rel => exact ⟨k + 1, by omega, by go_num, by rw [HE.out]; exact HN.out⟩
        case measure => simp [intOf]; omega
      · have HE : Hid (told ps ch (k + 1) = told ps ch k ++ [((k : Int), l, t)]) := HS.out
        have HO : Hid _ := ho
        have HA : Hid _ := ha
        clear HS ho ha hN
        go_wp2_with (at_builtin; refine wpList_append_at rfl _ _ 43 rfl 65 i0 cz 3 24 Try.underlying43 hi hz0 hz1 hz2 rfl (by decide) (.slice a m c) m XS rfl (HO.out _ ((Chg.refl no wr).alloc _)) ⟨wr.heap.size, 0, none⟩ 1 1 [.int .i64 k, .int .i64 l, .int .i64 t] rfl rfl news_at (one_i3 _ _ _) (by unfold maxLen; omega) (by omega) ?_; intro v5 w5 o5 g5 p5; have N5 := HA.out (k, l, t) _ v5 w5 ((Chg.refl no wr).alloc _) o5 g5 p5; obtain ⟨a5, c5, rfl⟩ := owns_shape o5; have HN5 : Hid _ := N5; clear o5 g5 p5 N5)
        go_wp2
        go_roundw
        case rel => exact ⟨k + 1, by omega, by go_num, by rw [HE.out]; exact HN5.out⟩
        case measure => simp [intOf]; omega
    · obtain rfl : k = n := by omega
      have hki : (k : Int) ≤ k := by omega
      clear ho ha
      go_wp2
      go_ret
      exact ⟨_, rfl, hN⟩

theorem take_next {α : Type} (xs : List α) (k : Nat) (x : α) (h : xs[k]? = some x) : xs.take (k + 1) = xs.take k ++ [x] := by
  obtain ⟨hk, rfl⟩ := List.getElem?_eq_some_iff.1 h
  exact List.take_succ_eq_append_getElem hk

set_option maxHeartbeats 1000000 in
theorem lplaces_any {J : Nat → Prop} (w : World) (v : Value) (ps : List (Int × Int)) (h : Lie J w v ps.length (ps.flatMap f2)) (hl : ps.length ≤ 100000) :
    Calls Try.prog 11 #[v] w fun e w' => ∃ v', e = .returned v' ∧ NewR 39 2 f2 w ps v' w' := by
  obtain ⟨i0, hi, hz0, hz1, hz2⟩ := info_parts' info39
  obtain ⟨x, cx, rfl⟩ := h.slice
  have HL : Hid (∀ W, Chg no w W → ∀ k l t, ps[k]? = some (l, t) → ∃ y, x = some y ∧ W.cell? (y.add (k * 2)) = some (.int .i64 l) ∧ W.cell? ⟨(y.add (k * 2)).block, (y.add (k * 2)).off + 1, none⟩ = some (.int .i64 t)) := by
    intro W kk k l t e
    obtain ⟨y, e1, _, e2, e3⟩ := (h.same kk).at2 e
    exact ⟨y, e1, e2, e3⟩
  obtain ⟨n, hn⟩ : ∃ n, ps.length = n := ⟨_, rfl⟩
  have HNN : Hid (ps.length = n) := hn
  rw [hn] at hl ⊢
  have hni : (n : Int) ≤ 100000 := by omega
  clear h hn
  go_enter Try.func11, Try.ntmps11
  go_wp2_with fail
  go_loopw [3, 4] (fun v i wr => ∃ k : Nat, k ≤ n ∧ i = .int .i64 (k : Int) ∧ NewR 39 2 f2 w (ps.take k) v wr) (fun _ i _ => n - (intOf i).toNat)
  case atStart => exact ⟨0, by omega, rfl, NewR.nil (Chg.refl no w)⟩
  case round =>
    obtain ⟨k, hk, rfl, hN⟩ := hrel
    by_cases hkn : k < n
    · have hki : (k : Int) < n := by omega
      have hkl : k < ps.length := by rw [HNN.out]; exact hkn
      obtain ⟨⟨l, t⟩, hlt⟩ : ∃ x, ps[k]? = some x := ⟨_, List.getElem?_eq_getElem hkl⟩
      have HE : Hid (ps.take (k + 1) = ps.take k ++ [(l, t)]) := take_next ps k (l, t) hlt
      obtain ⟨y, rfl, e0, e1⟩ := HL.out wr hN.2 k l t hlt
      have hml : (ps.take k).length ≤ k := List.length_take_le _ _
      have HK : Hid (NewR 39 2 f2 w (ps.take k) _ wr) := hN
      obtain ⟨a, c, hsh⟩ := hN.shape
      obtain ⟨m, hm⟩ : ∃ m, (ps.take k).length = m := ⟨_, rfl⟩
      rw [hm] at hsh hml
      subst hsh
      clear hlt hkl hm hN
      go_wp2_with fail
      refine (place_any _ l t).mono ?_
      rintro e w1 ⟨rfl, k1⟩
      obtain ⟨a', c', m', XS, hv, hm2, ho, ha⟩ := ready (NewR.same HK.out k1)
      cases hv
      have HO : Hid _ := ho
      have HA : Hid _ := ha
      clear ho ha e0 e1 hm2
      go_wp2_with (at_builtin; refine wpList_append_at rfl _ _ 30 rfl 39 i0 (nv 0 0) 2 16 Try.underlying30 hi hz0 hz1 hz2 rfl (by decide) (.slice a m c) m XS rfl (HO.out _ ((Chg.refl no w1).alloc _)) ⟨w1.heap.size, 0, none⟩ 1 1 [.int .i64 l, .int .i64 t] rfl rfl news_at (one_i2 _ _) (by unfold maxLen; omega) (by omega) ?_; intro v5 w5 o5 g5 p5; have N5 := HA.out (l, t) _ v5 w5 ((Chg.refl no w1).alloc _) o5 g5 p5; obtain ⟨a5, c5, rfl⟩ := owns_shape o5; have HN5 : Hid _ := N5; clear o5 g5 p5 N5)
      go_wp2
      go_roundw
      case rel => exact ⟨k + 1, by omega, by go_num, by rw [HE.out]; exact HN5.out⟩
      case measure => simp [intOf]; omega
    · obtain rfl : k = n := by omega
      have hki : (k : Int) ≤ k := by omega
      have hZ := hN
      rw [← HNN.out, List.take_length] at hZ
      have HZ : Hid _ := hZ
      clear hN hZ
      go_wp2
      go_ret
      exact ⟨_, rfl, HZ.out⟩

set_option maxHeartbeats 2000000 in
theorem lchanges_any {J : Nat → Prop} (w : World) (v : Value) (cs : List (Int × Int × Int)) (h : Lie J w v cs.length (cs.flatMap f3)) (hl : cs.length ≤ 100000) :
    Calls Try.prog 19 #[v] w fun e w' => ∃ v', e = .returned v' ∧ NewR 65 3 f3 w cs v' w' := by
  obtain ⟨i0, hi, hz0, hz1, hz2⟩ := info_parts' info65z
  obtain ⟨x, cx, rfl⟩ := h.slice
  have HL : Hid (∀ W, Chg no w W → ∀ k d l t, cs[k]? = some (d, l, t) → ∃ y, x = some y ∧ W.cell? (y.add (k * 3)) = some (.int .i64 d) ∧ W.cell? ⟨(y.add (k * 3)).block, (y.add (k * 3)).off + 1, none⟩ = some (.int .i64 l) ∧ W.cell? ⟨(y.add (k * 3)).block, (y.add (k * 3)).off + 2, none⟩ = some (.int .i64 t)) := by
    intro W kk k d l t e
    obtain ⟨y, e1, _, e2, e3, e4⟩ := (h.same kk).at3 e
    exact ⟨y, e1, e2, e3, e4⟩
  obtain ⟨n, hn⟩ : ∃ n, cs.length = n := ⟨_, rfl⟩
  have HNN : Hid (cs.length = n) := hn
  rw [hn] at hl ⊢
  have hni : (n : Int) ≤ 100000 := by omega
  clear h hn
  go_enter Try.func19, Try.ntmps19
  go_wp2_with fail
  go_loopw [3, 4] (fun v i wr => ∃ k : Nat, k ≤ n ∧ i = .int .i64 (k : Int) ∧ NewR 65 3 f3 w (cs.take k) v wr) (fun _ i _ => n - (intOf i).toNat)
  case atStart => exact ⟨0, by omega, rfl, NewR.nil (Chg.refl no w)⟩
  case round =>
    obtain ⟨k, hk, rfl, hN⟩ := hrel
    by_cases hkn : k < n
    · have hki : (k : Int) < n := by omega
      have hkl : k < cs.length := by rw [HNN.out]; exact hkn
      obtain ⟨⟨d, l, t⟩, hlt⟩ : ∃ x, cs[k]? = some x := ⟨_, List.getElem?_eq_getElem hkl⟩
      have HE : Hid (cs.take (k + 1) = cs.take k ++ [(d, l, t)]) := take_next cs k (d, l, t) hlt
      obtain ⟨y, rfl, e0, e1, e2⟩ := HL.out wr hN.2 k d l t hlt
      have hml : (cs.take k).length ≤ k := List.length_take_le _ _
      obtain ⟨a, c, m, XS, rfl, hm, ho, ha⟩ := ready hN
      rw [← hm] at hml
      have HO : Hid _ := ho
      have HA : Hid _ := ha
      clear hlt hkl hm ho ha hN
      go_wp2_with fail
      go_region_law (refine step_append_at rfl (.tmp 11) (.tmp 31) 43 rfl 65 i0 cz 3 24 Try.underlying43 hi hz0 hz1 hz2 rfl (by decide) (.slice a m c) m XS (by simp [Act.eval]) (HO.out _ ((Chg.refl no wr).alloc _).drew) ⟨wr.heap.size, 0, none⟩ 1 1 [.int .i64 d, .int .i64 l, .int .i64 t] (by simp [Act.eval]) rfl (news_at (w := wr) (xs := [.int .i64 d, .int .i64 l, .int .i64 t]) (t := 65)) (one_i3 _ _ _) (by unfold maxLen; omega) (by omega) ?_; intro v5 w5 o5 g5 p5; have N5 := HA.out (d, l, t) _ v5 w5 ((Chg.refl no wr).alloc _).drew o5 g5 p5; obtain ⟨a5, c5, rfl⟩ := owns_shape o5; have HN5 : Hid _ := N5; clear o5 g5 p5 N5)
      all_goals go_wp2
      all_goals go_roundw
      all_goals first
        | exact ⟨k + 1, by omega, by go_num, by rw [HE.out]; exact HN5.out⟩
        | (simp [intOf]; omega)
    · obtain rfl : k = n := by omega
      have hki : (k : Int) ≤ k := by omega
      have hZ := hN
      rw [← HNN.out, List.take_length] at hZ
      have HZ : Hid _ := hZ
      clear hN hZ
      go_wp2
      go_ret
      exact ⟨_, rfl, HZ.out⟩

end Go.Proofs.Ytocbmjkbbbmncaa.st
