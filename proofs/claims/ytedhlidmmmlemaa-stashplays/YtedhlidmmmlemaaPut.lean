/- Contracts of copyOf and Put. -/
import Derived.Test.YtedhlidmmmlemaaObj
namespace Go.Proofs.Ytedhlidmmmlemaa.st
open Go.ChangeShapes Go.WideShapes Go.ChangeAt Go.RowKit Go.Proofs.Ytedhlidmmmlemaa.hp
set_option linter.unusedVariables false
set_option linter.unusedSimpArgs false

theorem heap_two (w : World) (o1 o2 : Obj) : ((w.alloc o1).alloc o2).heap[w.heap.size]? = some o1 ∧ ((w.alloc o1).alloc o2).heap[w.heap.size + 1]? = some o2 := by
  constructor
  · rw [Below.heap_alloc _ _ _ (by simp)]
    exact heap_alloc_new _ _
  · have := heap_alloc_new (w.alloc o1) o2
    simpa using this

theorem chg_two (w : World) (g i j : Nat) (u v : Value) : Chg (fun k => k = g) w ((w.setCell ⟨g, i, none⟩ u).setCell ⟨g, j, none⟩ v) := by
  have h1 : Chg (fun k => k = g) w (w.setCell ⟨g, i, none⟩ u) := (Chg.refl _ w).setCell _ _ (.inl rfl)
  exact h1.setCell _ _ (.inl rfl)

set_option maxRecDepth 100000 in
theorem copyOf_any {J : Nat → Prop} (w : World) (id : Int) (a : Option Addr) (l c : Nat) (zs : List Int) (hv : Lies J w (.slice a l c) (zs.map (Value.int .u8))) (hl : zs.length = l) (hn : l ≤ 1000000) :
    Calls Try.prog 32 #[bv id a l c] w fun e w' => ∃ a' c', e = .returned (bv id a' l c') ∧ Lies (Anew w w') w' (.slice a' l c') (zs.map (Value.int .u8)) ∧ Chg no w w' := by
  have HC : Hid (∀ W, Chg no w W → Calls Try.prog 36 #[.slice a l c] W fun e w' => ∃ a' c', e = .returned (.slice a' l c') ∧ Lies (Anew W w') w' (.slice a' l c') (zs.map (Value.int .u8)) ∧ Chg no W w') := by
    intro W k
    refine (clone_any (.slice a l c) zs J W (hv.chg k (fun _ _ h => h)) (by omega)).mono ?_
    rintro e w' ⟨v', rfl, o, k'⟩
    obtain ⟨a', c', rfl⟩ := owns_shape o
    rw [hl] at o ⊢
    refine ⟨a', c', rfl, Lies.of_owns o (fun b hb => o.lt b hb), k'⟩
  have HE : Hid (∀ W w5 a5 c5, Chg no w W → w.heap.size + 1 < W.heap.size → Lies (Anew W w5) w5 (.slice a5 l c5) (zs.map (Value.int .u8)) → Chg no W w5 → Lies (Anew w ((w5.setCell ⟨w.heap.size + 1, 0, none⟩ (.int .i64 id)).setCell ⟨w.heap.size + 1, 1, none⟩ (.slice a5 l c5))) ((w5.setCell ⟨w.heap.size + 1, 0, none⟩ (.int .i64 id)).setCell ⟨w.heap.size + 1, 1, none⟩ (.slice a5 l c5)) (.slice a5 l c5) (zs.map (Value.int .u8)) ∧ Chg no w ((w5.setCell ⟨w.heap.size + 1, 0, none⟩ (.int .i64 id)).setCell ⟨w.heap.size + 1, 1, none⟩ (.slice a5 l c5))) := by
    intro W w5 a5 c5 k0 hz hL k5
    have K : Chg (fun k => k = w.heap.size + 1) w5 ((w5.setCell ⟨w.heap.size + 1, 0, none⟩ (.int .i64 id)).setCell ⟨w.heap.size + 1, 1, none⟩ (.slice a5 l c5)) := chg_two _ _ _ _ _ _
    have s0 := k0.size
    have s1 := K.size
    refine ⟨(hL.chg K (fun k hk e => by have := hk.1; omega)).mono (fun k hk => ⟨by have := hk.1; omega, by have := hk.2; omega⟩), (k0.then k5).trans K (fun k hk => .inr (by omega))⟩
  clear hv hl hn
  go_enter Try.func32, Try.ntmps32
  go_wp2_with fail
  go_region_with (go_at_call 36; refine (HC.out _ ?_).mono ?_; exact (((Chg.refl no w).alloc _).alloc _).drew; rintro e w5 ⟨a5, c5, rfl, l5, k5⟩; obtain ⟨q1, q2⟩ := heap_two w (.cells #[.int .i64 id, .slice a l c] 36) (.cells #[.int .i64 0, .slice none 0 0] 36); have q3 := k5.heap q1 (fun h => h); have q4 := k5.heap q2 (fun h => h); have r0 := (row_cell (xs := [_, _]) q3 0 _ rfl).1; have r1 := row_cell (xs := [_, _]) q4 0 _ rfl; have r2 := row_cell (xs := [_, _]) q4 1 _ rfl; have r3 := lt_of_block q4; obtain ⟨r4, r5⟩ := r1; obtain ⟨r6, r7⟩ := r2)
  all_goals
    have HE2 : Hid _ := HE.out _ w5 a5 c5 ((((Chg.refl no w).alloc _).alloc _).drew) (by simp) l5 k5
    clear q1 q2 q3 q4 l5 k5 HC HE
    go_wp2
    have hres : Try.f32.results = #[.cell 2 36] := by kernel_rfl
    refine bodyPost_ret (v := .agg #[.int .i64 id, .slice a5 l c5]) ?_ rfl ⟨a5, c5, rfl, HE2.out.1, HE2.out.2⟩
    simp only [results, hres]
    go_simp

theorem may_one (b : Bk) : mayL [b] = decide (okB b) := by
  unfold mayL
  apply decide_eq_decide.2
  constructor
  · intro h
    exact h.1 b (by simp)
  · intro h
    exact ⟨fun c hc => by simp at hc; subst hc; exact h, by simp⟩

/-- May of one block that was just built. -/
theorem may_built (w : World) (id : Int) (a : Option Addr) (l c : Nat) (zs : List Int) (hv : Lies (Old w) w (.slice a l c) (zs.map (Value.int .u8))) (hb : Bytes zs) (W : World) (g : Nat) (k : Chg no w W) (hg : W.heap[g]? = some (.cells #[.int .i64 id, .slice a l c] 36 (0, 0))) :
    Calls Try.prog 27 #[.slice (some ⟨g, 0, none⟩) 1 1] W fun e w' => e = .returned (.bool (decide (okB (id, zs)))) ∧ Chg no W w' := by
  have := may_any W _ _ (bks_one hg (Lies.later hv k) hb) (by simp)
  rwa [show abs [⟨id, .slice a l c, zs⟩] = [(id, zs)] from rfl, may_one] at this

set_option maxRecDepth 100000 in
theorem put_bad {F : Nat → Prop} {p : Nat} {L : List Bk} {m : Nat} {w : World} (h : St 64 36 F p L m w) (id : Int) (a : Option Addr) (l c : Nat) (zs : List Int) (hv : Lies (Old w) w (.slice a l c) (zs.map (Value.int .u8))) (hb : Bytes zs) (hn : ¬ okB (id, zs)) :
    Calls Try.prog 12 #[pt p, bv id a l c] w fun e w' => e = .returned (.bool false) ∧ Chg no w w' := by
  have HM : Hid _ := may_built w id a l c zs hv hb
  rw [decide_eq_false hn] at HM
  clear hv hb hn h
  go_enter Try.func12, Try.ntmps12
  go_wp2_with fail
  refine (HM.out _ _ (((Chg.refl no w).alloc _).alloc _) (heap_two w _ _).2).mono ?_
  rintro e w1 ⟨rfl, k1⟩
  have K : Hid (Chg no w w1) := (((Chg.refl no w).alloc _).alloc _).then k1
  clear k1
  go_wp2
  go_ret
  exact ⟨rfl, K.out⟩

section
variable {T e : TypeId} {F D : Nat → Prop} {p : Nat} {v : Value} {xs : List BV} {m : Nat} {w W : World}

/-- A block in place of one. -/
theorem end_set (h : Stw T e F D p v xs m w) (hk : Chg no w W) (x : BV) (hx : Lies (Anew w W) W x.v (x.d.map (Value.int .u8))) (hb : Bytes x.d) (i g c : Nat) (hv : v = .slice (some ⟨g, 0, none⟩) xs.length c) (hi : i < xs.length) (w2 : World) (k2 : Chg no ((W.setCell ⟨g, i * 2, none⟩ (.int .i64 x.id)).setCell ⟨g, i * 2 + 1, none⟩ x.v) w2) :
    Stw T e (Wid F w w2) (fun k => D k ∨ Anew w W k) p v (xs.set i x) m w2 ∧ Chg F w w2 := by
  subst hv
  have hW := h.same hk
  have o1 := (hW.row.stored (i * 2) (.int .i64 x.id)).1
  have o2 := (o1.stored (i * 2 + 1) x.v).1
  rw [setB] at o2
  have k1 := chg_two W g (i * 2) (i * 2 + 1) (.int .i64 x.id) x.v
  have k1' : Chg (fun k => (Value.slice (some ⟨g, 0, none⟩) xs.length c).ownBlock = some k) W w2 := (k1.mono (fun k hk => .inl (by subst hk; rfl))).then (k2.of_no _)
  have s0 := hk.size
  have s1 := k1'.size
  have hgp : p ≠ g := fun e => (h.sr g rfl).2 e.symm
  refine ⟨Stw.put hW (N := Anew w W) (fun k hk => ⟨fun e => by have := h.lt k e; have := hk.1; omega, hk.2⟩) k1' ?_ (fun k hk => .inl hk) (fun y hy => ?_) ?_ (Chg.refl _ w2) (fun k hk => .inl hk) (fun k hk => .inr ⟨hk.1, by have := hk.2; omega⟩) (fun k h1 h2 => .inr ⟨by omega, h2⟩) (fun k hk => ?_), (hk.of_no F).trans k1' (fun k hk => .inl (h.fr k hk))⟩
  · rw [List.length_set]
    exact k2.owns o2 (fun _ _ h => h)
  · rcases List.mem_or_eq_of_mem_set hy with hy | rfl
    · exact .inl hy
    · exact .inr ⟨hx, hb⟩
  · exact k2.heap (k1.heap hW.box hgp) (fun h => h)
  · rcases hk with hk | hk
    · have := h.lt k hk
      omega
    · exact hk.2

/-- The row anew. -/
theorem end_row (h : Stw T e F D p v xs m w) (hk : Chg no w W) {xs' : List BV} {v' : Value} {w1 w2 : World} {m' : Nat} (o : w1.ownsRow 0 e 2 v' xs'.length (xs'.flatMap fb)) (pl : ∀ k, v'.ownBlock = some k → v.ownBlock = some k ∨ W.heap.size ≤ k) (k1 : Chg (fun k => v.ownBlock = some k) W w1)
    (hx : ∀ x ∈ xs', x ∈ xs ∨ (Lies (Anew w W) W x.v (x.d.map (Value.int .u8)) ∧ Bytes x.d)) (b2 : w2.heap[p]? = some (.cells #[v', .int .i64 (m' : Int)] T (0, 0))) (k2 : Chg (fun k => k = p) w1 w2) :
    Stw T e (Wid F w w2) (fun k => D k ∨ Anew w W k) p v' xs' m' w2 ∧ Chg F w w2 := by
  have hW := h.same hk
  have s0 := hk.size
  have s1 := k1.size
  have s2 := k2.size
  refine ⟨Stw.put hW (N := Anew w W) (fun k hk => ⟨fun e => by have := h.lt k e; have := hk.1; omega, hk.2⟩) k1 o pl hx b2 k2 (fun k hk => .inl hk) (fun k hk => .inr ⟨hk.1, by have := hk.2; omega⟩) (fun k h1 h2 => .inr ⟨by omega, by omega⟩) (fun k hk => ?_), ((hk.of_no F).trans k1 (fun k hk => .inl (h.fr k hk))).trans k2 (fun k hk => .inl (by subst hk; exact h.fp))⟩
  rcases hk with hk | hk
  · have := h.lt k hk
    omega
  · exact hk.2
end

set_option maxRecDepth 100000 in
set_option maxHeartbeats 4000000 in
theorem put_good {F : Nat → Prop} {p : Nat} {L : List Bk} {m : Nat} {w : World} (h : St 64 36 F p L m w) (id : Int) (a : Option Addr) (c : Nat) (zs : List Int) (hv : Lies (Old w) w (.slice a 37 c) (zs.map (Value.int .u8))) (hb : Bytes zs) (hn : okB (id, zs)) :
    Calls Try.prog 12 #[pt p, bv id a 37 c] w fun e w' => e = .returned (.bool true) ∧ St 64 36 (Wid F w w') p (putL L (id, zs)) (max m (putL L (id, zs)).length) w' ∧ Chg F w w' := by
  have HM : Hid _ := may_built w id a 37 c zs hv hb
  rw [decide_eq_true hn] at HM
  have HC : Hid (∀ W, Chg no w W → Calls Try.prog 32 #[bv id a 37 c] W fun e w' => ∃ a' c', e = .returned (bv id a' 37 c') ∧ Lies (Anew W w') w' (.slice a' 37 c') (zs.map (Value.int .u8)) ∧ Chg no W w') := fun W k => copyOf_any W id a 37 c zs (Lies.later hv k) hn.2.2 (by omega)
  obtain ⟨v, xs, D, h1, rfl, h3, h4, h5⟩ := h
  have H1 : Hid (Stw 64 36 F D p v xs m w) := h1
  have hx : xs.length ≤ 64 := by rw [abs_len] at h4; omega
  have HFi : Hid (∀ W, Chg no w W → Calls Try.prog 33 #[pt p, .int .i64 id] W fun e w' => e = .returned (.tuple #[.int .i64 (posL (abs xs) id : Nat), .bool (hasL (abs xs) id)]) ∧ Chg no W w') := fun W k => find_any (h1.same k) h3.1 (by omega) id
  obtain ⟨P, hP⟩ : ∃ P, posL (abs xs) id = P := ⟨_, rfl⟩
  obtain ⟨B, hB⟩ : ∃ B, hasL (abs xs) id = B := ⟨_, rfl⟩
  have HP : Hid (posL (abs xs) id = P) := hP
  have HB : Hid (hasL (abs xs) id = B) := hB
  have HOK : Hid (okL (abs xs) ∧ (abs xs).length ≤ m ∧ m ≤ 64 ∧ Bytes zs ∧ okB (id, zs)) := ⟨h3, h4, h5, hb, hn⟩
  rw [hP, hB] at HFi
  obtain ⟨n, hnn⟩ : ∃ n, xs.length = n := ⟨_, rfl⟩
  have HL : Hid (xs.length = n) := hnn
  rw [hnn] at hx
  clear hv hb h1 hP hB h3 h4 h5 hn hnn
  go_enter Try.func12, Try.ntmps12
  go_wp2_with fail
  refine (HM.out _ _ (((Chg.refl no w).alloc _).alloc _) (heap_two w _ _).2).mono ?_
  rintro e w1 ⟨rfl, k1⟩
  have K1 : Hid (Chg no w w1) := (((Chg.refl no w).alloc _).alloc _).then k1
  have B1 : w1.heap[w.heap.size]? = some (.cells #[.int .i64 id, .slice a 37 c] 36 (0, 0)) := k1.heap (heap_two w _ _).1 (fun h => h)
  obtain ⟨q0, q1⟩ : w1.cell? ⟨w.heap.size, 0, none⟩ = some (.int .i64 id) ∧ w1.cell? ⟨w.heap.size, 1, none⟩ = some (.slice a 37 c) := ⟨(row_cell (xs := [_, _]) B1 0 _ rfl).1, (row_cell (xs := [_, _]) B1 1 _ rfl).1⟩
  have q2 := lt_of_block B1
  have HB1 : Hid _ := B1
  clear k1 HM B1
  go_wp2_with fail
  refine (HC.out w1 K1.out).mono ?_
  rintro e w2 ⟨a2, c2, rfl, l2, k2⟩
  have K2 : Hid (Chg no w w2) := K1.out.then k2
  have L2 : Hid (Lies (Anew w1 w2) w2 (.slice a2 37 c2) (zs.map (Value.int .u8))) := l2
  have B2 := k2.heap HB1.out (fun h => h)
  obtain ⟨r0, r1⟩ : w2.cell? ⟨w.heap.size, 0, none⟩ = some (.int .i64 id) ∧ w2.cell? ⟨w.heap.size, 1, none⟩ = some (.slice a 37 c) := ⟨(row_cell (xs := [_, _]) B2 0 _ rfl).1, (row_cell (xs := [_, _]) B2 1 _ rfl).1⟩
  have r2 := lt_of_block B2
  have r3 : w.heap.size ≠ w2.heap.size := by omega
  have r4 : (w2.alloc (.cells #[.int .i64 id, .slice a2 37 c2] 36)).cell? ⟨w.heap.size, 0, none⟩ = some (.int .i64 id) := ((Chg.refl no w2).alloc _).cell r0 (fun h => h)
  clear k2 l2 B2 HC q0 q1 q2
  go_wp2_with fail
  refine (HFi.out _ (K2.out.then ((Chg.refl no w2).alloc _))).mono ?_
  rintro e w4 ⟨rfl, k4⟩
  have K24 : Hid (Chg no w2 w4) := ((Chg.refl no w2).alloc (.cells #[.int .i64 id, .slice a2 37 c2] 36)).then k4
  have K4 : Hid (Chg no w w4) := K2.out.then K24.out
  have B4 : w4.heap[w2.heap.size]? = some (.cells #[.int .i64 id, .slice a2 37 c2] 36 (0, 0)) := k4.heap (heap_alloc_new w2 _) (fun h => h)
  obtain ⟨t0, t1⟩ : w4.cell? ⟨w2.heap.size, 0, none⟩ = some (.int .i64 id) ∧ w4.cell? ⟨w2.heap.size, 1, none⟩ = some (.slice a2 37 c2) := ⟨(row_cell (xs := [_, _]) B4 0 _ rfl).1, (row_cell (xs := [_, _]) B4 1 _ rfl).1⟩
  have t2 := lt_of_block B4
  have S4 := H1.out.same K4.out
  have HS4 : Hid (Stw 64 36 F D p v xs m w4) := S4
  have L4 : Hid (Lies (Anew w w4) w4 (.slice a2 37 c2) (zs.map (Value.int .u8))) := by
    refine (L2.out.chg K24.out (fun _ _ h => h)).mono (fun k hk => ⟨?_, ?_⟩)
    · have := hk.1
      have := K1.out.size
      omega
    · have := hk.2
      have := K24.out.size
      omega
  obtain ⟨d0, d1, d2, d3, d4⟩ := S4.cells
  have hpq : p ≠ w2.heap.size := by
    have := H1.out.lt p H1.out.fp
    have := K2.out.size
    omega
  obtain ⟨Q, hQ⟩ : ∃ Q, w2.heap.size = Q := ⟨_, rfl⟩
  rw [hQ] at t0 t1 t2 hpq
  simp only [hQ]
  clear k4 HFi B4 r0 r1 r2 r3 r4
  cases B
  case true =>
    have hlt : P < n := by
      have := (has_at HB.out).1
      rwa [HP.out, abs_len, HL.out] at this
    have hPi : (P : Int) < n := by omega
    obtain ⟨a0, c0, hv⟩ := S4.shape
    rw [HL.out] at hv
    have hv2 : ∃ g, v = .slice (some ⟨g, 0, none⟩) n c0 := by
      rcases S4.row.2 with ⟨_, h0⟩ | ⟨g, cap, cur, hh, _⟩
      · rw [HL.out] at h0
        omega
      · rw [hh] at hv
        cases hv
        exact ⟨g, by rw [hh, HL.out]⟩
    obtain ⟨g, rfl⟩ := hv2
    have S5 := S4.row
    rw [HL.out] at S5
    have u0 := S5.frozenAt (P * 2)
    have u1 := S5.frozenAt (P * 2 + 1)
    have u2 := (S5.lt g rfl).2
    obtain ⟨x0, x1, u3, u4⟩ : ∃ x0 x1, w4.cell? ⟨g, P * 2, none⟩ = some x0 ∧ w4.cell? ⟨g, P * 2 + 1, none⟩ = some x1 := by
      have l := S5.1
      exact ⟨_, _, by rw [S5.cellAt _ (by omega), List.getElem?_eq_getElem (by omega)], by rw [S5.cellAt _ (by omega), List.getElem?_eq_getElem (by omega)]⟩
    clear S5 S4 hv
    go_wp2_with fail
    go_region
    have HE : Hid (St 64 36 (Wid F w ((w4.setCell ⟨g, P * 2, none⟩ (.int .i64 id)).setCell ⟨g, P * 2 + 1, none⟩ (.slice a2 37 c2)).drew) p (putL (abs xs) (id, zs)) (max m (putL (abs xs) (id, zs)).length) ((w4.setCell ⟨g, P * 2, none⟩ (.int .i64 id)).setCell ⟨g, P * 2 + 1, none⟩ (.slice a2 37 c2)).drew ∧ Chg F w ((w4.setCell ⟨g, P * 2, none⟩ (.int .i64 id)).setCell ⟨g, P * 2 + 1, none⟩ (.slice a2 37 c2)).drew) := by
      obtain ⟨q1, q2, q3, q4, q5⟩ := HOK.out
      have hl := put_len (L := abs xs) (id, zs)
      rw [HB.out, if_pos rfl] at hl
      obtain ⟨E1, E2⟩ := end_set H1.out K4.out ⟨id, .slice a2 37 c2, zs⟩ L4.out q4 P g c0 (by rw [HL.out]) (by rw [HL.out]; exact hlt) _ ((Chg.refl no _).drew)
      have ha : abs (xs.set P ⟨id, .slice a2 37 c2, zs⟩) = putL (abs xs) (id, zs) := by
        rw [abs_set _ _ _ (by rw [HL.out]; exact hlt)]
        unfold putL
        rw [HB.out, HP.out, if_pos rfl]
        rfl
      have hm : max m (putL (abs xs) (id, zs)).length = m := by omega
      have ho := q1.put q5
      rw [hm]
      exact ⟨⟨_, _, _, E1, ha, ho, by omega, q3⟩, E2⟩
    clear HS4 L4 HOK HP HB H1 K4 K24 K2 L2 K1 HB1
    go_wp2
    go_ret
    exact ⟨rfl, HE.out.1, HE.out.2⟩
  case false =>
    have hle : P ≤ n := by
      have := pos_le (abs xs) id
      rwa [HP.out, abs_len, HL.out] at this
    obtain ⟨a0, c0, hv⟩ := S4.shape
    rw [HL.out] at hv
    have HI : Hid (∀ W, Chg no w4 W → W.heap[w4.heap.size]? = some (.cells #[.int .i64 id, .slice a2 37 c2] 36 (0, 0)) → Calls Try.prog 34 #[v, .int .i64 P, .slice (some ⟨w4.heap.size, 0, none⟩) 1 1] W fun e w' => ∃ a' c', e = .returned (.slice a' (n + 1) c') ∧ w'.ownsRow 0 36 2 (.slice a' (n + 1) c') (n + 1) (insX (xs.flatMap fb) P [.int .i64 id, .slice a2 37 c2]) ∧ (∀ k, (Value.slice a' (n + 1) c').ownBlock = some k → v.ownBlock = some k ∨ w4.heap.size ≤ k) ∧ Chg (fun k => v.ownBlock = some k) w4 w' ∧ w'.cell? ⟨p, 0, none⟩ = some v ∧ w'.cell? ⟨p, 1, none⟩ = some (.int .i64 (m : Int)) ∧ w'.frozen? ⟨p, 0, none⟩ = false ∧ w'.frozen? ⟨p, 1, none⟩ = false ∧ p < w'.heap.size ∧ w'.heap[p]? = some (.cells #[v, .int .i64 (m : Int)] 64 (0, 0))) := by
      intro W KA hbW
      have SA := HS4.out.same KA
      have hro := SA.row
      rw [HL.out] at hro
      have hne : v.ownBlock ≠ some w4.heap.size := by
        intro e
        have := HS4.out.lt _ (HS4.out.fr _ e)
        omega
      have hone : ∀ u ∈ xs.flatMap fb, u.oneCell' = true := oneB xs (fun x hx => by
        obtain ⟨ab, cb, hxv, _⟩ := (HS4.out.dat x hx).1.slice
        exact ⟨_, _, _, hxv⟩)
      refine (insert_any W v n P (xs.flatMap fb) w4.heap.size id a2 37 c2 hro hle (by omega) hone hbW hne).mono ?_
      rintro e w' ⟨v', rfl, o, pl, kk⟩
      obtain ⟨a', c', rfl⟩ := owns_shape o
      have hp : ¬ v.ownBlock = some p := fun e => (HS4.out.sr p e).2 rfl
      have hbx := kk.heap SA.box hp
      refine ⟨a', c', rfl, o, fun b hb => ?_, (KA.of_no _).then kk, ?_, ?_, ?_, ?_, lt_of_block hbx, hbx⟩
      · rcases pl b hb with e | e
        · exact .inl e
        · have := KA.size
          exact .inr (by omega)
      all_goals simp [World.cell?, World.frozen?, hbx]
    have hXni : (n : Int) ≤ 64 := by omega
    clear S4
    subst hv
    go_wp2_with fail
    go_region_with (go_at_call 34; refine (HI.out _ ?_ ?_).mono ?_; exact ((Chg.refl no w4).alloc _).drew; exact heap_alloc_new w4 _; rintro e w5 ⟨a5, c5, rfl, o5, p5, k5, x0, x1, x2, x3, x4, x5⟩)
    all_goals
      obtain ⟨M, hM, hM2⟩ : ∃ M : Nat, max m (n + 1) = M ∧ ((M : Nat) : Int) = max (m : Int) ((n : Int) + 1) := ⟨max m (n + 1), rfl, by omega⟩
      have HE : Hid (∀ w7 : World, w7.heap[p]? = some (.cells #[.slice a5 (n + 1) c5, .int .i64 (M : Int)] 64 (0, 0)) → Chg (fun k => k = p) w5 w7 → St 64 36 (Wid F w w7) p (putL (abs xs) (id, zs)) (max m (putL (abs xs) (id, zs)).length) w7 ∧ Chg F w w7) := by
        intro w7 b7 k7
        obtain ⟨q1, q2, q3, q4, q5⟩ := HOK.out
        have hl := put_len (L := abs xs) (id, zs)
        rw [HB.out, abs_len, HL.out] at hl
        simp only [Bool.false_eq_true, if_false] at hl
        have ha : abs (xs.take P ++ ⟨id, .slice a2 37 c2, zs⟩ :: xs.drop P) = putL (abs xs) (id, zs) := by
          rw [abs_ins]
          unfold putL
          rw [HB.out, HP.out]
          rfl
        have hlen : (xs.take P ++ (⟨id, .slice a2 37 c2, zs⟩ : BV) :: xs.drop P).length = n + 1 := by
          rw [← abs_len, ha, hl]
        have o6 : w5.ownsRow 0 36 2 (.slice a5 (n + 1) c5) (xs.take P ++ (⟨id, .slice a2 37 c2, zs⟩ : BV) :: xs.drop P).length ((xs.take P ++ (⟨id, .slice a2 37 c2, zs⟩ : BV) :: xs.drop P).flatMap fb) := by
          rw [hlen, ← insB]
          exact o5
        obtain ⟨E1, E2⟩ := end_row H1.out K4.out o6 p5 k5 (fun y hy => by
          rcases List.mem_append.1 hy with hy | hy
          · exact .inl (List.mem_of_mem_take hy)
          · rcases List.mem_cons.1 hy with rfl | hy
            · exact .inr ⟨L4.out, q4⟩
            · exact .inl (List.mem_of_mem_drop hy)) b7 k7
        have ho := q1.put q5
        have hbd := ho.len
        have hm : max m (putL (abs xs) (id, zs)).length = M := by rw [hl]; exact hM
        rw [hm]
        exact ⟨⟨_, _, _, E1, ha, ho, by omega, by omega⟩, E2⟩
      obtain ⟨w6, hw6⟩ : ∃ w6, w5.setCell ⟨p, 0, none⟩ (.slice a5 (n + 1) c5) = w6 := ⟨_, rfl⟩
      have G6 : w6.heap[p]? = some (.cells #[.slice a5 (n + 1) c5, .int .i64 (m : Int)] 64 (0, 0)) := by
        have := row_set (xs := [.slice a0 n c0, .int .i64 (m : Int)]) x5 0 (.slice a5 (n + 1) c5)
        rw [hw6] at this
        exact this
      have K6 : Hid (Chg (fun k => k = p) w5 w6) := by
        show Chg (fun k => k = p) w5 w6
        rw [← hw6]
        exact (Chg.refl _ w5).setCell _ _ (.inl rfl)
      obtain ⟨y0, y1⟩ := row_cell (xs := [_, _]) G6 0 _ rfl
      obtain ⟨y2, y3⟩ := row_cell (xs := [_, _]) G6 1 _ rfl
      have y4 := lt_of_block G6
      have HG6 : Hid _ := G6
      simp only [hw6]
      clear o5 p5 k5 x0 x1 x2 x3 x4 x5 hw6 G6 HS4 L4 HOK HP HB H1 K4 K24 K2 L2 K1 HB1 HI HL hM
      have hM3 : (if (m : Int) < (n : Int) + 1 then (n : Int) + 1 else (m : Int)) = (M : Int) := by rw [hM2]; split <;> omega
      have HE7 : Hid _ := HE.out (w6.setCell ⟨p, 1, none⟩ (.int .i64 (M : Int))).drew (by
        have := row_set (xs := [_, _]) HG6.out 1 (.int .i64 (M : Int))
        exact this) ((K6.out.setCell ⟨p, 1, none⟩ (.int .i64 (M : Int)) (.inl rfl)).drew)
      clear hM2 HE HG6 K6
      go_wp2_with fail
      go_region
    all_goals
      go_wp2
      go_ret
      exact ⟨rfl, HE7.out.1, HE7.out.2⟩

/-- Put, of whatever block. -/
theorem put_any {F : Nat → Prop} {p : Nat} {L : List Bk} {m : Nat} {w : World} (h : St 64 36 F p L m w) (id : Int) (a : Option Addr) (l c : Nat) (zs : List Int) (hv : Lies (Old w) w (.slice a l c) (zs.map (Value.int .u8))) (hb : Bytes zs) (hl : zs.length = l) :
    Calls Try.prog 12 #[pt p, bv id a l c] w fun e w' => e = .returned (.bool (decide (okB (id, zs)))) ∧ St 64 36 (Wid F w w') p (putA L (id, zs)) (mostA L m (id, zs)) w' ∧ Chg F w w' := by
  by_cases hn : okB (id, zs)
  · obtain rfl : l = 37 := by rw [← hl]; exact hn.2.2
    refine (put_good h id a c zs hv hb hn).mono ?_
    rintro e w' ⟨rfl, h2, k2⟩
    unfold putA mostA
    rw [decide_eq_true hn, if_pos hn, if_pos hn]
    exact ⟨rfl, h2, k2⟩
  · refine (put_bad h id a l c zs hv hb hn).mono ?_
    rintro e w' ⟨rfl, k2⟩
    unfold putA mostA
    rw [decide_eq_false hn, if_neg hn, if_neg hn]
    refine ⟨rfl, (h.same k2).wide (fun k hk => .inl hk) (fun k hk => ?_), k2.of_no _⟩
    rcases hk with hk | hk
    · have := h.lt k hk
      have := k2.size
      omega
    · exact hk.2

end Go.Proofs.Ytedhlidmmmlemaa.st
