/- What is handed out may be written: contracts of copyOf, Get and All that tell of rows of the caller's own. -/
import Derived.Test.YtedhlidmmmlemaaFir
namespace Go.Proofs.Ytedhlidmmmlemaa.st
open Go.ChangeShapes Go.WideShapes Go.ChangeAt Go.RowKit Go.Proofs.Ytedhlidmmmlemaa.hp
set_option linter.unusedVariables false
set_option linter.unusedSimpArgs false

set_option maxRecDepth 100000 in
theorem copyOf_own {J : Nat → Prop} (w : World) (id : Int) (a : Option Addr) (l c : Nat) (zs : List Int) (hv : Lies J w (.slice a l c) (zs.map (Value.int .u8))) (hl : zs.length = l) (hn : l ≤ 1000000) :
    Calls Try.prog 32 #[bv id a l c] w fun e w' => ∃ a' c', e = .returned (bv id a' l c') ∧ w'.ownsRow w.heap.size 5 1 (.slice a' l c') l (zs.map (Value.int .u8)) ∧ Chg no w w' := by
  have HC : Hid (∀ W, Chg no w W → Calls Try.prog 36 #[.slice a l c] W fun e w' => ∃ a' c', e = .returned (.slice a' l c') ∧ w'.ownsRow W.heap.size 5 1 (.slice a' l c') l (zs.map (Value.int .u8)) ∧ Chg no W w') := by
    intro W k
    refine (clone_any (.slice a l c) zs J W (hv.chg k (fun _ _ h => h)) (by omega)).mono ?_
    rintro e w' ⟨v', rfl, o, k'⟩
    obtain ⟨a', c', rfl⟩ := owns_shape o
    rw [hl] at o ⊢
    refine ⟨a', c', rfl, o, k'⟩
  have HE : Hid (∀ W w5 a5 c5, Chg no w W → w.heap.size + 1 < W.heap.size → w5.ownsRow W.heap.size 5 1 (.slice a5 l c5) l (zs.map (Value.int .u8)) → Chg no W w5 → ((w5.setCell ⟨w.heap.size + 1, 0, none⟩ (.int .i64 id)).setCell ⟨w.heap.size + 1, 1, none⟩ (.slice a5 l c5)).ownsRow w.heap.size 5 1 (.slice a5 l c5) l (zs.map (Value.int .u8)) ∧ Chg no w ((w5.setCell ⟨w.heap.size + 1, 0, none⟩ (.int .i64 id)).setCell ⟨w.heap.size + 1, 1, none⟩ (.slice a5 l c5))) := by
    intro W w5 a5 c5 k0 hz hL k5
    have K : Chg (fun k => k = w.heap.size + 1) w5 ((w5.setCell ⟨w.heap.size + 1, 0, none⟩ (.int .i64 id)).setCell ⟨w.heap.size + 1, 1, none⟩ (.slice a5 l c5)) := chg_two _ _ _ _ _ _
    have s0 := k0.size
    have s1 := K.size
    refine ⟨owns_base (K.owns hL (fun k hk e => by have := hL.lt k hk; omega)) (by omega), (k0.then k5).trans K (fun k hk => .inr (by omega))⟩
  clear hv hl hn
  go_enter Try.func32, Try.ntmps32
  go_wp2_with fail
  go_region_with (go_at_call 36; refine (HC.out _ ?_).mono ?_; exact (((Chg.refl no w).alloc _).alloc _).drew; rintro e w5 ⟨a5, c5, rfl, l5, k5⟩; obtain ⟨q1, q2⟩ := heap_two w (.cells #[.int .i64 id, .slice a l c] 36) (.cells #[.int .i64 0, .slice none 0 0] 36); have q3 := k5.heap q1 (fun h => h); have q4 := k5.heap q2 (fun h => h); have r0 := (row_cell (xs := [_, _]) q3 0 _ rfl).1; have r1 := row_cell (xs := [_, _]) q4 0 _ rfl; have r2 := row_cell (xs := [_, _]) q4 1 _ rfl; have r3 := lt_of_block q4; obtain ⟨r4, r5⟩ := r1; obtain ⟨r6, r7⟩ := r2)
  all_goals
    have HE2 : Hid _ := HE.out _ w5 a5 c5 ((((Chg.refl no w).alloc _).alloc _).drew) (by simp) l5 k5
    clear q1 q2 q3 q4 l5 k5 HC HE
    go_wp2
    have hres : Try.f32.results = #[.cell 2 36] := by kernel_rfl
    refine bodyPost_ret (v := .agg #[.int .i64 id, .slice a5 l c5]) ?_ rfl ⟨a5, c5, rfl, HE2.out.1, HE2.out.2⟩
    simp only [results, hres]
    go_simp

set_option maxRecDepth 100000 in
theorem get_own {F : Nat → Prop} {p : Nat} {L : List Bk} {m : Nat} {w : World} (h : St 64 36 F p L m w) (id : Int) :
    Calls Try.prog 17 #[pt p, .int .i64 id] w fun e w' => ∃ a c, e = .returned (.tuple #[.slice a (getL L id).2.length c, .bool (hasL L id)]) ∧ w'.ownsRow w.heap.size 5 1 (.slice a (getL L id).2.length c) (getL L id).2.length ((getL L id).2.map (Value.int .u8)) ∧ Chg no w w' := by
  obtain ⟨v, xs, D, h1, rfl, h3, h4, h5⟩ := h
  have hx : xs.length ≤ 64 := by rw [abs_len] at h4; omega
  have HF := find_any h1 h3.1 (by omega) id
  cases hh : hasL (abs xs) id
  · have e : getL (abs xs) id = dBk := by unfold getL; rw [hh]; rfl
    rw [e]
    rw [hh] at HF
    obtain ⟨P, hP⟩ : ∃ P, posL (abs xs) id = P := ⟨_, rfl⟩
    rw [hP] at HF
    clear h1 h3 h4 h5 hx e hP hh
    go_enter Try.func17, Try.ntmps17
    go_wp2_with fail
    refine HF.mono ?_
    rintro e w1 ⟨rfl, k1⟩
    go_wp2
    go_ret2
    exact ⟨none, 0, rfl, World.ownsRow_nil _ _ _ _, k1⟩
  · have e : getL (abs xs) id = (abs xs).getD (posL (abs xs) id) dBk := by unfold getL; rw [hh]; rfl
    have hlt := (has_at hh).1
    rw [abs_len] at hlt
    rw [e, abs_getD]
    rw [hh] at HF
    obtain ⟨P, hP⟩ : ∃ P, posL (abs xs) id = P := ⟨_, rfl⟩
    rw [hP] at HF hlt ⊢
    have hok : ((xs.getD P dBV).bk).2.length = 37 := by
      rw [← abs_getD]
      exact (h3.2 _ (getD_mem (by rw [abs_len]; exact hlt))).2.2
    obtain ⟨c0, _, _, _, hp⟩ := h1.cells
    have H1 : Hid (Stw 64 36 F D p v xs m w) := h1
    obtain ⟨a0, c0', hv⟩ := h1.shape
    subst hv
    obtain ⟨n, hn⟩ : ∃ n, xs.length = n := ⟨_, rfl⟩
    have HL : Hid (xs.length = n) := hn
    rw [hn] at c0 hlt
    have hPi : (P : Int) < n := by omega
    obtain ⟨⟨i1, v1, zs⟩, hx1⟩ : ∃ X, xs.getD P dBV = X := ⟨_, rfl⟩
    have HX : Hid (xs.getD P dBV = ⟨i1, v1, zs⟩) := hx1
    rw [hx1] at hok ⊢
    simp only [BV.bk] at hok ⊢
    rw [hok]
    clear h1 h3 h4 h5 hx e hP hh hn hx1
    go_enter Try.func17, Try.ntmps17
    go_wp2_with fail
    refine HF.mono ?_
    rintro e w1 ⟨rfl, k1⟩
    have H2 := H1.out.same k1
    obtain ⟨y, ab, cb, e1, e2, e3, hv, hL, hb, hlt2, _⟩ := (H2.bks).at P (by rw [HL.out]; exact hlt)
    subst e1
    have d0 := H2.cells.1
    have d1 := H2.cells.2.2.2.2
    rw [HL.out] at d0
    rw [HX.out] at e2 e3 hL
    simp only at e2 e3 hL
    rw [hok] at e3 hL
    have HC := clone_any (.slice ab 37 cb) zs _ w1 hL (by omega)
    rw [hok] at HC
    have HK : Hid (Chg no w w1) := k1
    clear H2 hv hL hb HF H1 c0 k1 e2 HX hok
    go_wp2_with fail
    refine HC.mono ?_
    rintro e w2 ⟨v2, rfl, o2, k2⟩
    obtain ⟨a2, c2, rfl⟩ := owns_shape o2
    have HR : Hid (w2.ownsRow w.heap.size 5 1 (.slice a2 37 c2) 37 (zs.map (Value.int .u8)) ∧ Chg no w w2) := by
      exact ⟨owns_base o2 HK.out.size, HK.out.then k2⟩
    clear o2 k2 HC
    go_wp2
    go_ret2
    exact ⟨a2, c2, rfl, HR.out.1, HR.out.2⟩

/-- The row of All, its first k blocks laid. -/
structure AllO (w : World) (xs : List BV) (n k : Nat) (ys : List BV) (wr : World) : Prop where
  len : ys.length = k
  told : abs ys = (abs xs).take k
  row : wr.heap[w.heap.size]? = some (.cells ((ys ++ List.replicate (n - k) dBV).flatMap fb).toArray 36 (0, 0))
  dat : ∀ x ∈ ys, wr.ownsRow (w.heap.size + 1) 5 1 x.v x.d.length (x.d.map (Value.int .u8)) ∧ Bytes x.d
  chg : Chg no w wr

/-- Blocks in new memory, of the caller's own. -/
structure ShownO (w w' : World) (v : Value) (ys : List BV) : Prop where
  row : Lie (Anew w w') w' v ys.length (ys.flatMap fb)
  dat : ∀ x ∈ ys, w'.ownsRow (w.heap.size + 1) 5 1 x.v x.d.length (x.d.map (Value.int .u8)) ∧ Bytes x.d
  chg : Chg no w w'

theorem AllO.step {w wr w2 w3 : World} {xs ys : List BV} {n k : Nat} (h : AllO w xs n k ys wr) (hn : xs.length = n) (hk : k < n) (i1 : Int) (v1 : Value) (zs : List Int) (hx : (xs.getD k dBV).bk = (i1, zs)) (hb : Bytes zs) (k2 : Chg no wr w2) (hv : w2.ownsRow (wr.heap.size + 1) 5 1 v1 zs.length (zs.map (Value.int .u8)))
    (h3 : w3 = (w2.setCell ⟨w.heap.size, k * 2, none⟩ (.int .i64 i1)).setCell ⟨w.heap.size, k * 2 + 1, none⟩ v1) : AllO w xs n (k + 1) (ys ++ [⟨i1, v1, zs⟩]) w3 := by
  have hr := k2.heap h.row (fun h => h)
  have r1 := row_set (row_set hr (k * 2) (.int .i64 i1)) (k * 2 + 1) v1
  have K : Chg (fun b => b = w.heap.size) w2 w3 := by
    rw [h3]
    exact chg_two _ _ _ _ _ _
  have s1 := h.chg.size
  have s2 := k2.size
  have s3 := K.size
  have s0 := lt_of_block h.row
  refine ⟨by simp [h.len], ?_, ?_, ?_, ?_⟩
  · rw [take_snoc (abs xs) k dBk (by rw [abs_len, hn]; exact hk), ← h.told, abs_getD, hx]
    simp [abs, BV.bk]
  · rw [h3, r1, setB (ys ++ List.replicate (n - k) dBV) k ⟨i1, v1, zs⟩]
    congr 3
    rw [List.set_append_right _ _ (by rw [h.len]; omega), h.len, Nat.sub_self, show n - k = (n - (k + 1)) + 1 by omega, List.replicate_succ, List.set_cons_zero, List.append_assoc]
    rfl
  · intro x hxx
    rcases List.mem_append.1 hxx with hxx | hxx
    · exact ⟨K.owns (k2.owns (h.dat x hxx).1 (fun _ _ h => h)) (fun b hb e => by have := (h.dat x hxx).1.lt b hb; omega), (h.dat x hxx).2⟩
    · simp at hxx
      subst hxx
      exact ⟨owns_base (K.owns hv (fun b hb e => by have := hv.lt b hb; omega)) (by omega), hb⟩
  · exact (h.chg.then k2).trans K (fun b hb => .inr (by omega))

set_option maxRecDepth 100000 in
set_option maxHeartbeats 4000000 in
theorem all_own {F : Nat → Prop} {p : Nat} {L : List Bk} {m : Nat} {w : World} (h : St 64 36 F p L m w) :
    Calls Try.prog 26 #[pt p] w fun e w' => ∃ a c ys, e = .returned (.slice a ys.length c) ∧ abs ys = L ∧ ShownO w w' (.slice a ys.length c) ys := by
  obtain ⟨i0, hi0, hz0, hz1, hz2⟩ := info_parts' info36
  obtain ⟨v, xs, D, h1, rfl, h3, h4, h5⟩ := h
  have hx : xs.length ≤ 64 := by rw [abs_len] at h4; omega
  have H1 : Hid (Stw 64 36 F D p v xs m w) := h1
  have H3 : Hid (okL (abs xs)) := h3
  obtain ⟨d0, _, _, _, d4⟩ := h1.cells
  obtain ⟨a0, c0, hv⟩ := h1.shape
  subst hv
  obtain ⟨n, hn⟩ : ∃ n, xs.length = n := ⟨_, rfl⟩
  have HL : Hid (xs.length = n) := hn
  rw [hn] at hx d0
  have hni : (n : Int) ≤ 64 := by omega
  have HDC : Hid (∀ W, Chg no w W → W.cell? ⟨p, 0, none⟩ = some (.slice a0 n c0) ∧ p < W.heap.size) := fun W k => ⟨k.cell d0 (fun h => h), Nat.lt_of_lt_of_le d4 k.size⟩
  clear h1 h3 h4 h5 hn
  go_enter Try.func26, Try.ntmps26
  go_wp2_with (at_make; refine wpList_make_full _ rfl _ _ 22 rfl w.heap.size 36 i0 bz 2 Try.underlying22 hi0 hz0 hz1 .i64 .i64 n n n rfl rfl rfl rfl ?c1 ?c2 ?c3 ?_)
  case c1 => rw [hz2]; omega
  case c2 => unfold maxLen; omega
  case c3 => omega
  intro w1 hown hg
  have k1 : Chg no w w1 := (Chg.refl no w).grown hg (by simp)
  have HR0 : Hid (AllO w xs n 0 [] w1) := by
    refine ⟨rfl, by simp [abs], ?_, fun x hx => by simp at hx, k1⟩
    obtain ⟨_, _, cur, hgc, h1, h2, h3, h4⟩ := owns_open (owns_base hown (Nat.zero_le _))
    rw [hgc]
    have hz : bz.cells.size = 2 := rfl
    rw [List.take_of_length_le (by omega)] at h4
    have h6 := h4.trans (made_b n)
    rw [h6]
    rfl
  obtain ⟨e0, e4⟩ := HDC.out w1 k1
  clear hown hg d0 d4
  go_wp2_with fail
  go_loopw [4, 5, 17] (fun _ _ i wr => ∃ (k : Nat) (ys : List BV), k ≤ n ∧ i = .int .i64 (k : Int) ∧ AllO w xs n k ys wr) (fun _ _ i _ => n - (intOf i).toNat)
  case atStart => exact ⟨0, [], by omega, rfl, HR0.out⟩
  case round =>
    clear HR0 e0 e4 k1
    obtain ⟨k, ys, hk, rfl, hR⟩ := hrel
    have HR : Hid (AllO w xs n k ys wr) := hR
    by_cases hkn : k < n
    · have hki : (k : Int) < n := by omega
      obtain ⟨y, ab, cb, rfl, e0, e1, _, hLd, hBy, hlt, hne⟩ := (H1.out.same hR.chg).bks.at k (by rw [HL.out]; exact hkn)
      have hok : (xs.getD k dBV).d.length = 37 := by
        have := (H3.out.2 _ (getD_mem (L := abs xs) (i := k) (by rw [abs_len, HL.out]; exact hkn))).2.2
        rw [abs_getD] at this
        exact this
      obtain ⟨⟨i1, v1, zs⟩, hx1⟩ : ∃ X, xs.getD k dBV = X := ⟨_, rfl⟩
      have HX : Hid ((xs.getD k dBV).bk = (i1, zs)) := by
        show _ = _
        rw [hx1]
        rfl
      rw [hx1] at e0 e1 hLd hBy hok
      simp only at e0 e1 hLd hBy hok
      rw [hok] at e1 hLd
      have HC := copyOf_own (wr.alloc (.cells #[.int .i64 i1, .slice ab 37 cb] 36)) i1 ab 37 cb zs (Lies.later hLd ((Chg.refl no wr).alloc _)) hok (by omega)
      have HBy : Hid (Bytes zs) := hBy
      have hzl : Hid (zs.length = 37) := hok
      clear hx1 hLd hBy hR
      go_wp2_with fail
      refine HC.mono ?_
      rintro e w2 ⟨a2, c2, rfl, l2, k2⟩
      have k2' : Chg no wr w2 := ((Chg.refl no wr).alloc _).then k2
      have hB := k2'.heap HR.out.row (fun h => h)
      have hll : ((ys ++ List.replicate (n - k) dBV).flatMap fb).length = n * 2 := by
        rw [flat_length lenb, List.length_append, List.length_replicate, HR.out.len]
        congr 1
        omega
      obtain ⟨x0, hx0⟩ : ∃ x0, ((ys ++ List.replicate (n - k) dBV).flatMap fb)[k * 2]? = some x0 := ⟨_, List.getElem?_eq_getElem (by omega)⟩
      obtain ⟨x1, hx1⟩ : ∃ x1, ((ys ++ List.replicate (n - k) dBV).flatMap fb)[k * 2 + 1]? = some x1 := ⟨_, List.getElem?_eq_getElem (by omega)⟩
      obtain ⟨f0, f1⟩ := row_cell hB (k * 2) x0 hx0
      obtain ⟨f2, f3⟩ := row_cell hB (k * 2 + 1) x1 hx1
      have f4 := lt_of_block hB
      have HE : Hid (AllO w xs n (k + 1) (ys ++ [⟨i1, .slice a2 37 c2, zs⟩]) ((w2.setCell ⟨w.heap.size, k * 2, none⟩ (.int .i64 i1)).setCell ⟨w.heap.size, k * 2 + 1, none⟩ (.slice a2 37 c2))) :=
        HR.out.step HL.out hkn i1 (.slice a2 37 c2) zs HX.out HBy.out k2' (by rw [hzl.out]; have h2 := l2; rw [show (wr.alloc (.cells #[.int .i64 i1, .slice ab 37 cb] 36)).heap.size = wr.heap.size + 1 by simp] at h2; exact h2) rfl
      clear k2 k2' l2 hB hll hx0 hx1 HX HC e0 e1 HR
      go_wp2
      go_roundw
      case rel => exact ⟨k + 1, _, by omega, by go_num, HE.out⟩
      case measure => simp [intOf]; omega
    · obtain rfl : k = n := by omega
      have hki : (k : Int) ≤ k := by omega
      have HF : Hid (∃ a c ys', (Value.slice (some ⟨w.heap.size, 0, none⟩) k k) = .slice a ys'.length c ∧ abs ys' = abs xs ∧ ShownO w wr (.slice a ys'.length c) ys') := by
        have hr := HR.out.row
        rw [Nat.sub_self, List.replicate_zero, List.append_nil] at hr
        refine ⟨some ⟨w.heap.size, 0, none⟩, k, ys, by rw [HR.out.len], ?_, ?_, ?_, HR.out.chg⟩
        · rw [HR.out.told, List.take_of_length_le (by rw [abs_len, HL.out]; omega)]
        · refine .inr ⟨_, _, rfl, fun _ => ⟨Nat.le_refl _, lt_of_block hr⟩, fun i u hu => ?_⟩
          rw [Addr.add_lit, Nat.zero_add]
          exact (row_cell hr i u hu).1
        · intro x hx
          exact HR.out.dat x hx
      clear hR
      go_wp2
      go_ret
      obtain ⟨a, c, ys', e1, e2, e3⟩ := HF.out
      rw [e1]
      exact ⟨a, c, ys', rfl, e2, e3⟩

end Go.Proofs.Ytedhlidmmmlemaa.st
