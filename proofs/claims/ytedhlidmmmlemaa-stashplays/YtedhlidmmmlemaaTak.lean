/- The contract of Take. -/
import Derived.Test.YtedhlidmmmlemaaPut
namespace Go.Proofs.Ytedhlidmmmlemaa.st
open Go.ChangeShapes Go.WideShapes Go.ChangeAt Go.RowKit Go.Proofs.Ytedhlidmmmlemaa.hp
set_option linter.unusedVariables false
set_option linter.unusedSimpArgs false

/-- Fewer blocks, where they lay. -/
theorem Stw.less {T e : TypeId} {F D : Nat → Prop} {p : Nat} {v v' : Value} {xs xs' : List BV} {m : Nat} {W w1 w2 : World} (h : Stw T e F D p v xs m W) (k1 : Chg (fun k => v.ownBlock = some k) W w1) (o : w1.ownsRow 0 e 2 v' xs'.length (xs'.flatMap fb)) (pl : ∀ k, v'.ownBlock = some k → v.ownBlock = some k)
    (hx : ∀ x ∈ xs', x ∈ xs) (b2 : w2.heap[p]? = some (.cells #[v', .int .i64 (m : Int)] T (0, 0))) (k2 : Chg (fun k => k = p) w1 w2) : Stw T e F D p v' xs' m w2 := by
  have s1 := k1.size
  have s2 := k2.size
  refine ⟨b2, k2.owns o (fun k hk e => (h.sr k (pl k hk)).2 e), fun x hxx => ⟨((h.dat x (hx x hxx)).1.chg k1 (fun k hk e => (h.sr k e).1 hk)).chg k2 (fun k hk e => h.sp (by subst e; exact hk)), (h.dat x (hx x hxx)).2⟩, h.fp, fun k hk => h.fr k (pl k hk), h.fd, fun k hk => by have := h.lt k hk; omega, h.sp, fun k hk => h.sr k (pl k hk)⟩

set_option maxRecDepth 100000 in
set_option maxHeartbeats 4000000 in
theorem take_any {F : Nat → Prop} {p : Nat} {L : List Bk} {m : Nat} {w : World} (h : St 64 36 F p L m w) (id : Int) :
    Calls Try.prog 13 #[pt p, .int .i64 id] w fun e w' => ∃ a c, e = .returned (.tuple #[bv (getL L id).1 a (getL L id).2.length c, .bool (hasL L id)]) ∧ Lies F w' (.slice a (getL L id).2.length c) ((getL L id).2.map (Value.int .u8)) ∧ St 64 36 F p (delL L id) m w' ∧ Chg F w w' := by
  have HS : Hid (St 64 36 F p L m w) := h
  obtain ⟨v, xs, D, h1, rfl, h3, h4, h5⟩ := h
  have hx : xs.length ≤ 64 := by rw [abs_len] at h4; omega
  have HF : Hid (∀ W, Chg no w W → Calls Try.prog 33 #[pt p, .int .i64 id] W fun e w' => e = .returned (.tuple #[.int .i64 (posL (abs xs) id : Nat), .bool (hasL (abs xs) id)]) ∧ Chg no W w') := fun W k => find_any (h1.same k) h3.1 (by omega) id
  have H1 : Hid (Stw 64 36 F D p v xs m w) := h1
  obtain ⟨P, hP⟩ : ∃ P, posL (abs xs) id = P := ⟨_, rfl⟩
  have HP : Hid (posL (abs xs) id = P) := hP
  have HOK : Hid (okL (abs xs) ∧ (abs xs).length ≤ m ∧ m ≤ 64) := ⟨h3, h4, h5⟩
  have hres : Try.f13.results = #[.cell 4 36, .tmp 5] := by kernel_rfl
  cases hh : hasL (abs xs) id
  · have e : getL (abs xs) id = dBk := by unfold getL; rw [hh]; rfl
    have e2 : delL (abs xs) id = abs xs := by unfold delL; rw [hh]; rfl
    rw [e, e2]
    rw [hh, hP] at HF
    have hA4 : (w.alloc (.cells #[.int .i64 0, .slice none 0 0] 36)).heap[w.heap.size]? = some (.cells #[.int .i64 0, .slice none 0 0] 36 (0, 0)) := heap_alloc_new _ _
    have HA4 : Hid _ := hA4
    clear h1 h3 h4 h5 hx e e2 hP hh hA4
    go_enter Try.func13, Try.ntmps13
    go_wp2_with fail
    refine (HF.out _ ((Chg.refl no w).alloc _)).mono ?_
    rintro e w1 ⟨rfl, k1⟩
    have hb := k1.heap HA4.out (fun h => h)
    obtain ⟨q0, q1⟩ := row_cell (xs := [_, _]) hb 0 _ rfl
    obtain ⟨q2, q3⟩ := row_cell (xs := [_, _]) hb 1 _ rfl
    have q4 := lt_of_block hb
    have K : Hid (Chg no w w1 ∧ St 64 36 F p (abs xs) m ((w1.setCell ⟨w.heap.size, 0, none⟩ (.int .i64 0)).setCell ⟨w.heap.size, 1, none⟩ (.slice none 0 0)) ∧ Chg F w ((w1.setCell ⟨w.heap.size, 0, none⟩ (.int .i64 0)).setCell ⟨w.heap.size, 1, none⟩ (.slice none 0 0))) := by
      have k : Chg no w w1 := ((Chg.refl no w).alloc _).then k1
      have k2 := chg_two w1 w.heap.size 0 1 (.int .i64 0) (.slice none 0 0)
      refine ⟨k, (HS.out.same k).chg k2 (fun b hb e => by have := HS.out.lt b hb; omega), (k.of_no F).trans k2 (fun b hb => .inr (by omega))⟩
    clear k1 hb HF
    go_wp2
    refine bodyPost_ret (v := .tuple #[.agg #[.int .i64 0, .slice none 0 0], .bool false]) ?_ rfl ⟨none, 0, rfl, .inl ⟨rfl, rfl⟩, K.out.2.1, K.out.2.2⟩
    simp only [results, hres]
    go_simp
  · have e : getL (abs xs) id = (abs xs).getD (posL (abs xs) id) dBk := by unfold getL; rw [hh]; rfl
    have e2 : delL (abs xs) id = (abs xs).take (posL (abs xs) id) ++ (abs xs).drop (posL (abs xs) id + 1) := by unfold delL; rw [hh]; rfl
    have hlt := (has_at hh).1
    rw [abs_len] at hlt
    rw [e, abs_getD]
    rw [hP] at hlt e2 ⊢
    rw [hh, hP] at HF
    have hok : ((xs.getD P dBV).bk).2.length = 37 := by
      rw [← abs_getD]
      exact (h3.2 _ (getD_mem (by rw [abs_len]; exact hlt))).2.2
    have HE2 : Hid (delL (abs xs) id = abs (xs.take P ++ xs.drop (P + 1))) := by
      rw [abs_del]
      exact e2
    obtain ⟨⟨i1, v1, zs⟩, hx1⟩ : ∃ X, xs.getD P dBV = X := ⟨_, rfl⟩
    have HX : Hid (xs.getD P dBV = ⟨i1, v1, zs⟩) := hx1
    rw [hx1] at hok ⊢
    simp only [BV.bk] at hok ⊢
    rw [hok]
    obtain ⟨N, hn⟩ : ∃ N, xs.length = N + 1 := ⟨xs.length - 1, by omega⟩
    have HL : Hid (xs.length = N + 1) := hn
    have HDL : Hid (okL (delL (abs xs) id) ∧ (delL (abs xs) id).length ≤ m) := ⟨h3.del id, by rw [del_len]; split <;> omega⟩
    have hA4 : (w.alloc (.cells #[.int .i64 0, .slice none 0 0] 36)).heap[w.heap.size]? = some (.cells #[.int .i64 0, .slice none 0 0] 36 (0, 0)) := heap_alloc_new _ _
    have HA4 : Hid _ := hA4
    rw [hn] at hlt hx
    have hPi : (P : Int) < (N : Int) + 1 := by omega
    have hPN : (P : Int) < ((N + 1 : Nat) : Int) := by omega
    have hrow := h1.row
    rw [hn] at hrow
    have hv2 : ∃ g c0, v = .slice (some ⟨g, 0, none⟩) (N + 1) c0 := by
      rcases hrow.2 with ⟨_, h0⟩ | ⟨g, cap, cur, hh, _⟩
      · omega
      · exact ⟨g, cap, hh⟩
    obtain ⟨g, c0, rfl⟩ := hv2
    have hgp : g ≠ p := (h1.sr g rfl).2
    have hglt : g < w.heap.size := (hrow.lt g rfl).2
    have hplt : p < w.heap.size := h1.lt p h1.fp
    have hwr : IntKind.i64.wrap ((P : Int) + 1) = (P : Int) + 1 := by rw [IntKind.wrap_i64]; omega
    clear h1 h3 h4 h5 e e2 hP hh hn hA4 hx1 hrow
    go_enter Try.func13, Try.ntmps13
    go_wp2_with fail
    refine (HF.out _ ((Chg.refl no w).alloc _)).mono ?_
    rintro e w2 ⟨rfl, k1⟩
    have K2 : Hid (Chg no w w2) := ((Chg.refl no w).alloc (.cells #[.int .i64 0, .slice none 0 0] 36)).then k1
    have B2 : Hid (w2.heap[w.heap.size]? = some (.cells #[.int .i64 0, .slice none 0 0] 36 (0, 0))) := k1.heap HA4.out (fun h => h)
    have S2 := H1.out.same K2.out
    obtain ⟨y, ab, cb, e1, e2, e3, hv, hL, hb, hlt2, hlt3⟩ := (S2.bks).at P (by rw [HL.out]; exact hlt)
    simp only [Option.some.injEq] at e1
    subst e1
    rw [HX.out] at e2 e3 hL hv
    simp only at e2 e3 hL hv
    rw [hok] at e3 hL hv
    simp only [Addr.add_lit, Nat.zero_add] at e2 e3 hlt2
    obtain ⟨d0, _, _, _, d4⟩ := S2.cells
    have HDt : Hid (Lies D w2 (.slice ab 37 cb) (zs.map (Value.int .u8))) := by
      have hm : (⟨i1, v1, zs⟩ : BV) ∈ xs := by
        rw [← HX.out, List.getD_eq_getElem?_getD, List.getElem?_eq_getElem (by rw [HL.out]; exact hlt)]
        exact List.getElem_mem _
      have := (S2.dat _ hm).1
      simp only at this
      rw [hv] at this
      exact this
    have HDel : Hid (Calls Try.prog 35 #[.slice (some ⟨g, 0, none⟩) (N + 1) c0, .int .i64 P, .int .i64 ((P : Int) + 1)] (w2.alloc (.cells #[.int .i64 i1, .slice ab 37 cb] 36)) fun e w' => e = .returned (.slice (some ⟨g, 0, none⟩) N c0) ∧ w'.ownsRow 0 36 2 (.slice (some ⟨g, 0, none⟩) N c0) N (delX (xs.flatMap fb) P) ∧ Chg (fun k => k = g) (w2.alloc (.cells #[.int .i64 i1, .slice ab 37 cb] 36)) w') := by
      have hro := (S2.same ((Chg.refl no w2).alloc (.cells #[.int .i64 i1, .slice ab 37 cb] 36))).row
      rw [HL.out] at hro
      exact delete_any _ g c0 N P _ hro (by omega) (by omega) (oneB xs (fun x hx => by
        obtain ⟨a', c', hxv, _⟩ := (S2.dat x hx).1.slice
        exact ⟨_, _, _, hxv⟩))
    have hA4n : w.heap.size ≠ w2.heap.size := by have := lt_of_block B2.out; omega
    clear hL hb hv S2 k1 HF hlt3
    go_wp2_with fail
    refine HDel.out.mono ?_
    rintro e w4 ⟨rfl, o4, k4⟩
    have B3 : Hid (w4.heap[w2.heap.size]? = some (.cells #[.int .i64 i1, .slice ab 37 cb] 36 (0, 0))) := k4.heap (heap_alloc_new w2 _) (by omega)
    have B4 : Hid (w4.heap[w.heap.size]? = some (.cells #[.int .i64 0, .slice none 0 0] 36 (0, 0))) := k4.heap (((Chg.refl no w2).alloc _).heap B2.out (fun h => h)) (by omega)
    have BP : Hid (w4.heap[p]? = some (.cells #[.slice (some ⟨g, 0, none⟩) (N + 1) c0, .int .i64 (m : Int)] 64 (0, 0))) := k4.heap (((Chg.refl no w2).alloc _).heap (H1.out.same K2.out).box (fun h => h)) (fun e => hgp e.symm)
    obtain ⟨f0, f1⟩ := row_cell (xs := [_, _]) BP.out 0 _ rfl
    have f2 := lt_of_block BP.out
    have HO4 : Hid _ := o4
    have HK4 : Hid _ := k4
    have kk5 : Chg (fun k => k = p) w4 (w4.setCell ⟨p, 0, none⟩ (.slice (some ⟨g, 0, none⟩) N c0)) := (Chg.refl _ w4).setCell _ _ (.inl rfl)
    have hpA4 : ¬ w.heap.size = p := by omega
    have hpA8 : ¬ w2.heap.size = p := by have := K2.out.size; omega
    have g3 := kk5.heap B3.out hpA8
    have g4 := kk5.heap B4.out hpA4
    have j0 := (row_cell (xs := [_, _]) g3 0 _ rfl).1
    have j1 := (row_cell (xs := [_, _]) g3 1 _ rfl).1
    obtain ⟨j2, j3⟩ := row_cell (xs := [_, _]) g4 0 _ rfl
    obtain ⟨j4, j5⟩ := row_cell (xs := [_, _]) g4 1 _ rfl
    have j6 := lt_of_block g4
    have HE : Hid (∀ w6, Chg (fun k => k = w.heap.size) (w4.setCell ⟨p, 0, none⟩ (.slice (some ⟨g, 0, none⟩) N c0)) w6 → Lies F w6 (.slice ab 37 cb) (zs.map (Value.int .u8)) ∧ St 64 36 F p (delL (abs xs) id) m w6 ∧ Chg F w w6) := by
      intro w6 k6
      have K3 : Chg no w (w2.alloc (.cells #[.int .i64 i1, .slice ab 37 cb] 36)) := K2.out.then ((Chg.refl no w2).alloc _)
      have S3 := H1.out.same K3
      have hlen : (xs.take P ++ xs.drop (P + 1)).length = N := by
        rw [List.length_append, List.length_take, List.length_drop, HL.out]
        omega
      have o5 : w4.ownsRow 0 36 2 (.slice (some ⟨g, 0, none⟩) N c0) (xs.take P ++ xs.drop (P + 1)).length ((xs.take P ++ xs.drop (P + 1)).flatMap fb) := by
        rw [hlen, ← delB]
        exact HO4.out
      have hb5 := row_set (xs := [_, _]) BP.out 0 (.slice (some ⟨g, 0, none⟩) N c0)
      have S5 := S3.less (HK4.out.mono (fun k hk => .inl (by subst hk; rfl))) o5 (fun k hk => hk) (fun x hx => by
        rcases List.mem_append.1 hx with hx | hx
        · exact List.mem_of_mem_take hx
        · exact List.mem_of_mem_drop hx) hb5 kk5
      have S6 := S5.chg k6 (fun b hb e => by have := H1.out.lt b hb; omega)
      have D3 : Lies D (w2.alloc (.cells #[.int .i64 i1, .slice ab 37 cb] 36)) (.slice ab 37 cb) (zs.map (Value.int .u8)) := HDt.out.chg ((Chg.refl no w2).alloc _) (fun _ _ h => h)
      have D4 := D3.chg HK4.out (fun b hb e => (H1.out.sr g rfl).1 (by subst e; exact hb))
      have D5 := D4.chg kk5 (fun b hb e => H1.out.sp (by subst e; exact hb))
      have D6 := D5.chg k6 (fun b hb e => by have := H1.out.lt b (H1.out.fd b hb); omega)
      refine ⟨D6.mono H1.out.fd, ⟨_, _, _, S6, HE2.out.symm, HDL.out.1, HDL.out.2, HOK.out.2.2⟩, ?_⟩
      have k24 := ((K3.of_no F).trans HK4.out (fun b hb => .inl (by subst hb; exact H1.out.fr _ rfl))).trans kk5 (fun b hb => .inl (by subst hb; exact H1.out.fp))
      exact k24.trans k6 (fun b hb => .inr (by omega))
    have HE6 : Hid _ := HE.out _ (chg_two _ w.heap.size 0 1 (.int .i64 i1) (.slice ab 37 cb))
    clear g3 g4 kk5 HE
    clear o4 k4 d0 d4 e2 e3 hlt2
    clear B3 B4 BP HO4 HK4 HDL HDt HX HE2 HOK H1 HS HL K2 B2 HP
    go_wp2
    refine bodyPost_ret (v := .tuple #[.agg #[.int .i64 i1, .slice ab 37 cb], .bool true]) ?_ rfl ⟨ab, cb, rfl, HE6.out.1, HE6.out.2.1, HE6.out.2.2⟩
    simp only [results, hres]
    go_simp

end Go.Proofs.Ytedhlidmmmlemaa.st
