/- The contract of Seal where it seals. -/
import Derived.Test.YtmchjnmmeankgaaSel
namespace Go.Proofs.Ytmchjnmmeankgaa.st
open Go.ChangeShapes Go.WideShapes Go.ChangeAt Go.RowKit Go.Proofs.Ytmchjnmmeankgaa.hp Go.Proofs.Ytmchjnmmeankgaa.dg
set_option linter.unusedVariables false

/-- The state behind a text that was sealed. -/
def OS.put (S : OS) (n : Int × Int) (zs : List Int) : OS := ({ S with pl := S.pl ++ zs } : OS).ask n

/-- The cell of it. -/
def OS.cellOf (S : OS) (n : Int × Int) (zs : List Int) : List Int := nbs n.1 n.2 ++ xor2 zs ((S.put n zs).padOf n)

theorem why_zero {S : OS} {g c : Int} {n : Nat} (h : S.why g c n = 0) : may g c = true ∧ g ≠ 0 ∧ n = S.L ∧ S.knows (g, c) = false := by
  unfold OS.why at h
  by_cases h1 : may g c = false ∨ g = 0
  · rw [if_pos h1] at h
    cases h
  · rw [if_neg h1] at h
    by_cases h2 : n ≠ S.L
    · rw [if_pos h2] at h
      cases h
    · rw [if_neg h2] at h
      cases h3 : S.knows (g, c) with
      | true => simp [h3] at h
      | false => simp at h1 h2; exact ⟨h1.1, h1.2, h2, rfl⟩

/-- One slice of bytes in a row of its own. -/
theorem many_one {w : World} {v : Value} {zs : List Int} (h : Lies (fun _ => True) w v (zs.map (Value.int .u8))) (t : TypeId) : Many (fun _ => True) (w.alloc (.cells #[v] t)) (.slice (some ⟨w.heap.size, 0, none⟩) 1 1) [v] [zs] :=
  ⟨(lies_new [v] t).mono (fun _ _ => trivial), rfl, fun i hi => by
    simp at hi
    subst hi
    exact h.chg ((Chg.refl no w).alloc _) (fun _ _ h => h)⟩

theorem many_two {w : World} {v u : Value} {zs ys : List Int} (h : Lies (fun _ => True) w v (zs.map (Value.int .u8))) (h2 : Lies (fun _ => True) w u (ys.map (Value.int .u8))) (t : TypeId) : Many (fun _ => True) (w.alloc (.cells #[v, u] t)) (.slice (some ⟨w.heap.size, 0, none⟩) 2 2) [v, u] [zs, ys] :=
  ⟨(lies_new [v, u] t).mono (fun _ _ => trivial), rfl, fun i hi => by
    simp at hi
    have : i = 0 ∨ i = 1 := by omega
    rcases this with rfl | rfl
    · exact h.chg ((Chg.refl no w).alloc _) (fun _ _ h => h)
    · exact h2.chg ((Chg.refl no w).alloc _) (fun _ _ h => h)⟩

theorem concat_two (w : World) (v u : Value) (zs ys : List Int) (h : Lies (fun _ => True) w v (zs.map (Value.int .u8))) (h2 : Lies (fun _ => True) w u (ys.map (Value.int .u8))) (h0 : 0 < zs.length) (hl : zs.length + ys.length ≤ 100000000) :
    Calls Try.prog 32 #[.slice (some ⟨w.heap.size, 0, none⟩) 2 2] (w.alloc (.cells #[v, u] 22)) fun e w' => ∃ v', e = .returned v' ∧ New w (zs ++ ys) v' w' := by
  obtain ⟨L, hL⟩ : ∃ L, ([zs, ys] : List (List Int)).flatten = L := ⟨_, rfl⟩
  have hL2 : L = zs ++ ys := by rw [← hL]; simp
  have := concat_any (w.alloc (.cells #[v, u] 22)) (fun k => k < (w.alloc (.cells #[v, u] 22)).heap.size) (.slice (some ⟨w.heap.size, 0, none⟩) 2 2) [v, u] [zs, ys] ?_ (fun _ h => h) (by simp) (by simp; omega) (by simp; omega)
  · rw [hL, hL2] at this
    refine this.mono ?_
    rintro e w' ⟨v', rfl, N⟩
    exact ⟨v', rfl, New.behind N ((Chg.refl no w).alloc _)⟩
  · have hm := many_two h h2 22
    have hlt : ∀ (x : Addr) (u : Value) (i : Nat), (w.alloc (.cells #[v, u] 22)).cell? (x.add i) = some u → x.block < (w.alloc (.cells #[v, u] 22)).heap.size := fun x u i hh => by
      have := World.block_lt_of_cell? _ _ hh
      rwa [add_block] at this
    have sharp : ∀ {v' : Value} {xs : List Value}, Lies (fun _ => True) (w.alloc (.cells #[v, u] 22)) v' xs → Lies (fun k => k < (w.alloc (.cells #[v, u] 22)).heap.size) (w.alloc (.cells #[v, u] 22)) v' xs := by
      intro v' xs hh
      rcases hh with hh | ⟨x, c, e, _, hc⟩
      · exact .inl hh
      · refine .inr ⟨x, c, e, fun hne => ?_, hc⟩
        cases xs with
        | nil => exact absurd rfl hne
        | cons y ys =>
          have := World.block_lt_of_cell? _ _ (hc 0 y rfl)
          rwa [add_block] at this
    exact ⟨sharp hm.row, hm.len, fun i hi => sharp (hm.each i hi)⟩

theorem xor_one (w : World) (va v : Value) (zs ys : List Int) (h : Lies (fun _ => True) w va (zs.map (Value.int .u8))) (h2 : Lies (fun _ => True) w v (ys.map (Value.int .u8))) (hl : zs.length ≤ 100000000) (hl2 : ys.length ≤ 100000000) :
    Calls Try.prog 26 #[va, .slice (some ⟨w.heap.size, 0, none⟩) 1 1] (w.alloc (.cells #[v] 22)) fun e w' => ∃ v', e = .returned v' ∧ New w (xor2 zs ys) v' w' := by
  refine (xor_any _ _ va zs (h.chg ((Chg.refl no w).alloc _) (fun _ _ h => h)) _ [v] [ys] (many_one h2 22) (by simp) hl ?_).mono ?_
  · intro i hi
    simp at hi
    subst hi
    exact hl2
  · rintro e w' ⟨v', rfl, N⟩
    exact ⟨v', rfl, New.behind N ((Chg.refl no w).alloc _)⟩

set_option maxRecDepth 100000 in
set_option maxHeartbeats 4000000 in
theorem seal_ok {w : World} {p q : Nat} {F J : Nat → Prop} {S : OS} (h : Orc p q S w F) (hok : S.Ok) (hp9 : S.pl.length ≤ 9000000) (g c : Int) (hn : Fits (g, c)) (t : Value) (zs : List Int) (ht : Lies J w t (zs.map (Value.int .u8))) (hJ : ∀ k, J k → ¬ F k ∧ k < w.heap.size) (hw : S.why g c zs.length = 0) :
    Calls Try.prog 13 #[.pointer (some ⟨p, 0, none⟩), nv g c, t] w fun e w' => ∃ v, e = .returned (.tuple #[v, .int .i64 0]) ∧ Fine (Orc p q (S.put (g, c) zs)) w F v ((S.cellOf (g, c) zs).map (Value.int .u8)) w' ∧ Capd v := by
  obtain ⟨hm, hg, hL, hkn⟩ := why_zero hw
  obtain ⟨i0, hi, hz0, hz1, hz2⟩ := info_parts info5
  have HM := fun w => may_any w g c
  simp only [hm] at HM
  have hgb : (g == 0) = false := by simpa using hg
  have hbox : Chg no w (w.alloc (.cells #[.int .i64 g, .int .i64 c] 40)) := (Chg.refl no w).alloc _
  have HB : Hid ((w.alloc (.cells #[.int .i64 g, .int .i64 c] 40)).heap[w.heap.size]? = some (.cells #[.int .i64 g, .int .i64 c] 40 (0, 0))) := heap_alloc_new _ _
  have HK : Hid (∀ w1, Chg no w w1 → w1.cell? ⟨p, 1, none⟩ = some (.int .i64 S.L) ∧ p < w1.heap.size ∧ Calls Try.prog 21 #[.pointer (some ⟨p, 0, none⟩), nv g c] w1 fun e w' => e = .returned (.bool false) ∧ Chg no w1 w') := by
    intro w1 k
    have h1 := h.chg k (fun _ _ h => h)
    have h3 := known_any h1 g c hn
    rw [hkn] at h3
    refine ⟨?_, h1.plt, h3⟩
    obtain ⟨b, tv, pv, kv, I, h1⟩ := h1
    exact h1.cells.2.1
  obtain ⟨x, cx, rfl, _⟩ := ht.slice
  simp only [List.length_map] at ht ⊢
  have HLT : Hid (Lies J w (.slice x zs.length cx) (zs.map (Value.int .u8))) := ht
  have HJ : Hid (∀ k, J k → ¬ F k ∧ k < w.heap.size) := hJ
  have HH : Hid (Orc p q S w F) := h
  have hpl := h.plt
  have l2 := hok.l2
  have lp := hok.p
  have l1 := hok.l1
  have HOK : Hid (({ S with pl := S.pl ++ zs } : OS).Ok) := by
    refine ⟨hok.l1, hok.l2, hok.k, ?_⟩
    show (S.pl ++ zs).length ≤ 10000000
    rw [List.length_append]
    omega
  have hzl : zs.length ≤ 4000 := by omega
  have hzi : (zs.length : Int) ≤ 4000 := by omega
  have hLi : (S.L : Int) ≤ 4000 := by omega
  have hLs : Hid (zs.length = S.L) := hL
  have HPD : Hid (((S.put (g, c) zs).padOf (g, c)).length = S.L) := by
    have e := (S.put (g, c) zs).padOf_length (g, c)
    exact e
  obtain ⟨pad, hpad⟩ : ∃ pad, (S.put (g, c) zs).padOf (g, c) = pad := ⟨_, rfl⟩
  obtain ⟨S2, hS2⟩ : ∃ S2, S.put (g, c) zs = S2 := ⟨_, rfl⟩
  obtain ⟨nb, hnb⟩ : ∃ nb, nbs g c = nb := ⟨_, rfl⟩
  have HNB : Hid (nb.length = 12) := by rw [← hnb]; exact nbs_length g c
  have HCO : Hid (S.cellOf (g, c) zs = nb ++ xor2 zs pad) := by
    show nbs g c ++ xor2 zs ((S.put (g, c) zs).padOf (g, c)) = _
    rw [hpad, hnb]
  rw [hpad] at HPD
  have HBY := fun w => bytes_any w g c
  rw [hnb] at HBY
  have HPAD : Hid (∀ w' F', Orc p q { S with pl := S.pl ++ zs } w' F' → Calls Try.prog 19 #[.pointer (some ⟨p, 0, none⟩), nv g c] w' fun e w'' => ∃ v, e = .returned v ∧ Fine (Orc p q S2) w' F' v (pad.map (Value.int .u8)) w'') := by
    intro w' F' ho
    have := pad_any ho HOK.out g c hn
    rw [← hS2, ← hpad]
    exact this
  rw [hS2]
  have hlL : (zs.length == S.L) = true := by simpa using hL
  obtain ⟨n, hnl⟩ : ∃ n, zs.length = n := ⟨_, rfl⟩
  have HFW : Hid (∀ k, F k → k < w.heap.size) := h.lt
  clear h ht hJ hok hpad hS2 hnb lp hkn hw hm hg
  rw [← hLs.out] at HK HPD
  clear hL hlL hLi l2 l1
  rw [hnl] at HK HPD HLT hzl hzi ⊢
  go_enter Try.func13, Try.ntmps13
  go_wp2_with fail
  refine (HM _).mono ?_
  rintro e w1 ⟨rfl, k1⟩
  have gb := k1.heap HB.out id
  obtain ⟨a0, b0⟩ := row_cell (xs := [_, _]) gb 0 _ rfl
  obtain ⟨a1, b1⟩ := row_cell (xs := [_, _]) gb 1 _ rfl
  have K := hbox.then k1
  obtain ⟨c1, p1, HKN⟩ := HK.out _ K
  clear HB HK k1 hbox HM
  go_wp2_with fail
  refine HKN.mono ?_
  rintro e w2 ⟨rfl, k2⟩
  have K2 := K.then k2
  have gb2 := k2.heap gb id
  obtain ⟨b, tv, pv, kv, I, h2⟩ := HH.out.chg K2 (fun _ _ h => h)
  obtain ⟨e0, e1, e2, e3, f3⟩ := h2.cells
  have hp2 := h2.lt p h2.fp
  have HL2 : Hid (Lies J w2 (.slice x n cx) (zs.map (Value.int .u8))) := HLT.out.chg K2 (fun _ _ h => h)
  have HO2 : Hid (OrcAt w2 p q b tv pv kv I F S) := h2
  have HBX : Hid (w2.heap[w.heap.size]? = some (.cells #[.int .i64 g, .int .i64 c] 40 (0, 0))) := gb2
  obtain ⟨pa, pc, rfl⟩ := owns_shape h2.pln
  have HNL : Hid (zs.length = n) := hnl
  have hNlt := lt_of_block gb2
  clear gb gb2 HKN a0 b0 a1 b1 c1 h2 HH k2 K hnl
  go_wp2_with (at_builtin; refine wpList_append_grew rfl _ _ 22 rfl 5 i0 (.int .u8 0) 1 Try.underlying22 hi hz0 hz1 hz2 rfl (.slice pa S.pl.length pc) S.pl.length (S.pl.map (Value.int .u8)) rfl HO2.out.pln J (.slice x n cx) (zs.map (Value.int .u8)) rfl HL2.out (ints_oneCell _ _) (by have := HNL.out; simp; unfold maxLen; omega) (by have := HNL.out; simp; omega) ?_; intro v5 w5 G5; obtain ⟨X5, CX5, y1, y2, y3⟩ := HO2.out.put G5; have HX5 : Hid _ := X5; have HC5 : Hid _ := CX5; obtain ⟨a5, c5, rfl⟩ := owns_shape G5.own; have HG5 : Hid _ := G5; clear X5 CX5 G5)
  have HA1 : Hid (Orc p q { S with pl := S.pl ++ zs } (w5.setCell ⟨p, 3, none⟩ (.slice a5 (S.pl.length + zs.length) c5)) (fun k => F k ∨ (w2.heap.size ≤ k ∧ k < w5.heap.size))) := ⟨_, _, _, _, _, by have := HX5.out; simp only [List.length_map] at this; exact this⟩
  have HA2 : Hid (Chg F w2 (w5.setCell ⟨p, 3, none⟩ (.slice a5 (S.pl.length + zs.length) c5))) := by have := HC5.out; simp only [List.length_map] at this; exact this
  have hs5 : (w5.setCell ⟨p, 3, none⟩ (.slice a5 (S.pl.length + zs.length) c5)).heap.size = w5.heap.size := by simp
  obtain ⟨wA, hwA⟩ : ∃ wA, w5.setCell ⟨p, 3, none⟩ (.slice a5 (S.pl.length + zs.length) c5) = wA := ⟨_, rfl⟩
  rw [hwA] at HA1 HA2 hs5 ⊢
  obtain ⟨N, hN⟩ : ∃ N, w.heap.size = N := ⟨_, rfl⟩
  have gA : wA.heap[N]? = some (.cells #[.int .i64 g, .int .i64 c] 40 (0, 0)) := by rw [← hN]; exact HA2.out.heap HBX.out (fun e => Nat.lt_irrefl _ (HFW.out _ e))
  have HN : Hid (w.heap.size = N) := hN
  simp only [hN]
  clear hwA HX5 HC5 HG5 y1 y2 y3 hN HBX HO2
  obtain ⟨pG, hpG⟩ : ∃ pG : World → Prop, ∀ w', pG w' ↔ w'.heap[N]? = some (.cells #[.int .i64 g, .int .i64 c] 40 (0, 0)) := ⟨_, fun _ => Iff.rfl⟩
  have xN0 : ∀ x' : far.InC pG, x'.w.cell? ⟨N, 0, none⟩ = some (.int .i64 g) := fun x => (row_cell (xs := [_, _]) ((hpG _).1 x.h) 0 _ rfl).1
  have xN1 : ∀ x' : far.InC pG, x'.w.cell? ⟨N, 1, none⟩ = some (.int .i64 c) := fun x => (row_cell (xs := [_, _]) ((hpG _).1 x.h) 1 _ rfl).1
  have iG : Nonempty (far.InC pG) := ⟨⟨wA, (hpG _).2 gA⟩⟩
  have HpG : Hid (∀ w', pG w' ↔ w'.heap[N]? = some (.cells #[.int .i64 g, .int .i64 c] 40 (0, 0))) := hpG
  have Y0 : Chg no wA wA.drew := (Chg.refl no wA).drew
  have HGA : Hid (wA.heap[N]? = some (.cells #[.int .i64 g, .int .i64 c] 40 (0, 0))) := gA
  clear hpG gA
  refine far.region_farM (fun κ w' => pG w') [1, 5, 6, 7, 8, 9] (by kernel_rfl) (by kernel_rfl) ((HpG.out _).2 (Y0.heap HGA.out id)) ?_
  intro L e1' e2' e3'
  refine far.farO_stretch pG 1 0 0 e1' e2' e3' (by kernel_rfl) (by kernel_rfl) (fun κ w' hk1 hk2 hC => hC) ?_
  simp only [List.take_succ_cons, List.take_zero, List.drop_succ_cons, List.drop_zero, Nat.reduceAdd]
  repeat (go_big_quiet_step (fail))
  refine wpQuiet_nil ?_
  refine far.farO_enter e1' e2' 0 rfl rfl 29 #[nv g c] (by kernel_rfl) (by kernel_rfl) ?_
  refine (HBY _).mono ?_
  rintro e wa ⟨ba, rfl, hba1, hba2, ka⟩
  have Ka := Y0.then ka
  have ga := Ka.heap HGA.out id
  refine ⟨_, rfl, (HpG.out _).2 ga, ?_⟩
  simp only [Act.put, List.setIfInBounds_toArray, List.set_cons_succ, List.set_cons_zero, Nat.reduceAdd]
  refine far.farO_stretch pG 3 0 3 e1' e2' e3' (by kernel_rfl) (by kernel_rfl) (fun κ w' hk1 hk2 hC => hC) ?_
  simp only [List.take_succ_cons, List.take_zero, List.drop_succ_cons, List.drop_zero, Nat.reduceAdd]
  repeat (go_big_quiet_step (fail))
  refine wpQuiet_nil ?_
  refine far.farO_enter e1' e2' 1 rfl rfl 19 #[.pointer (some ⟨p, 0, none⟩), nv g c] (by kernel_rfl) (by kernel_rfl) ?_
  refine (HPAD.out _ _ (HA1.out.chg Ka (fun _ _ h => h))).mono ?_
  rintro e wb ⟨vb, rfl, Fb, hb1, hb2, hb3, hb4⟩
  have sK2 := K2.size
  have sA := HA2.out.size
  have sa := Ka.size
  have sb := hb4.size
  have nN : ¬ (F N ∨ (w2.heap.size ≤ N ∧ N < w5.heap.size)) := by
    have := HN.out
    rintro (e | e)
    · have := HFW.out N e
      omega
    · omega
  have gb := hb4.heap ga nN
  refine ⟨_, rfl, (HpG.out _).2 gb, ?_⟩
  obtain ⟨xb, cb, rfl, _⟩ := hb3.slice
  simp only [List.length_map, HPD.out] at hb3 ⊢
  simp only [Act.put, List.setIfInBounds_toArray, List.set_cons_succ, List.set_cons_zero, Nat.reduceAdd]
  refine farO_does e1' e2' 2 rfl rfl (w' := wb.alloc (.cells #[.slice xb n cb] 22)) (.slice (some ⟨wb.heap.size, 0, none⟩) 1 1) (by kernel_rfl) (by go_simp) ?_ ?_
  · exact (HpG.out _).2 (((Chg.refl no wb).alloc _).heap gb id)
  simp only [Act.put, List.setIfInBounds_toArray, List.set_cons_succ, List.set_cons_zero, Nat.reduceAdd]
  have CB : Chg F w2 wb := (HA2.out.trans Ka (fun _ h => h.elim)).trans hb4 (fun k hk => by rcases hk with e | e; exact .inl e; exact .inr e.1)
  have hLt : Lies (fun _ => True) wb (.slice x n cx) (zs.map (Value.int .u8)) := (HL2.out.chg CB (fun k hk => (HJ.out k hk).1)).mono (fun _ _ => trivial)
  have HX := xor_one wb (.slice x n cx) (.slice xb n cb) zs pad hLt (hb3.mono (fun _ _ => trivial)) (by have := HNL.out; omega) (by have := HPD.out; omega)
  refine far.farO_enter e1' e2' 3 rfl rfl 26 #[.slice x n cx, .slice (some ⟨wb.heap.size, 0, none⟩) 1 1] (by kernel_rfl) (by kernel_rfl) ?_
  refine HX.mono ?_
  rintro e wc ⟨vc, rfl, Nc⟩
  have gc := Nc.2.heap gb id
  refine ⟨_, rfl, (HpG.out _).2 gc, ?_⟩
  obtain ⟨xc, cc, rfl⟩ := Nc.shape
  have hxl : (xor2 zs pad).length = n := by rw [xor2_length]; exact HNL.out
  simp only [hxl] at Nc ⊢
  simp only [Act.put, List.setIfInBounds_toArray, List.set_cons_succ, List.set_cons_zero, Nat.reduceAdd]
  refine farO_does e1' e2' 4 rfl rfl (w' := wc.alloc (.cells #[.slice (some ⟨ba, 0, none⟩) 12 12, .slice xc n cc] 22)) (.slice (some ⟨wc.heap.size, 0, none⟩) 2 2) (by kernel_rfl) (by go_simp) ?_ ?_
  · exact (HpG.out _).2 (((Chg.refl no wc).alloc _).heap gc id)
  simp only [Act.put, List.setIfInBounds_toArray, List.set_cons_succ, List.set_cons_zero, Nat.reduceAdd]
  have hbw : wc.heap[ba]? = some (.cells (nb.map (Value.int .u8)).toArray 5 (0, 0)) := by
    refine Nc.2.heap (hb4.heap hba2 ?_) id
    have e1 : wA.drew.heap.size = wA.heap.size := rfl
    rintro (e | e)
    · have := HFW.out _ e
      omega
    · omega
  have hLn := (block_lies hbw).mono (K := fun _ => True) (fun _ _ => trivial)
  rw [HNB.out] at hLn
  have HCC := concat_two wc (.slice (some ⟨ba, 0, none⟩) 12 12) (.slice xc n cc) nb (xor2 zs pad) hLn (Nc.lies.mono (fun _ _ => trivial)) (by have := HNB.out; omega) (by have := HNB.out; omega)
  rw [← HCO.out] at HCC
  refine far.farO_enter e1' e2' 5 rfl rfl 32 #[.slice (some ⟨wc.heap.size, 0, none⟩) 2 2] (by kernel_rfl) (by kernel_rfl) ?_
  refine HCC.mono ?_
  rintro e wd ⟨vd, rfl, Nd⟩
  refine ⟨_, rfl, (HpG.out _).2 (Nd.2.heap gc id), ?_⟩
  obtain ⟨xd, cd, rfl⟩ := Nd.shape
  obtain ⟨CZ, hCZ⟩ : ∃ CZ, S.cellOf (g, c) zs = CZ := ⟨_, rfl⟩
  rw [hCZ] at Nd ⊢
  simp only [Act.put, List.setIfInBounds_toArray, List.set_cons_succ, List.set_cons_zero, Nat.reduceAdd]
  have HE : Hid (Fine (Orc p q S2) w F (.slice xd CZ.length cd) (CZ.map (Value.int .u8)) wd ∧ Capd (.slice xd CZ.length cd)) := by
    refine ⟨fine_new (w1 := wc) (F' := Fb) ((hb1.chg Nc.2 (fun _ _ h => h)).chg Nd.2 (fun _ _ h => h)) ?_ ?_ Nd, Nd.capd⟩
    · intro k hk
      have sc := Nc.2.size
      obtain ⟨z1, z2⟩ := hb2 k hk
      refine ⟨?_, by omega⟩
      rcases z1 with (z1 | z1) | z1
      · exact .inl z1
      · exact .inr (by omega)
      · exact .inr (by omega)
    · exact ((K2.of_no F).then CB).trans Nc.2 (fun _ h => h.elim)
  clear HCC HX hLt hLn Nc Nd hb1 hb2 hb3 hb4 CB hbw ga gb gc HPAD HBY HA1 HA2 hba2
  refine far.farO_stretch pG 2 6 6 e1' e2' e3' (by kernel_rfl) (by kernel_rfl) (fun κ w' hk1 hk2 hC => hC) ?_
  simp only [List.take_succ_cons, List.take_zero, List.drop_succ_cons, List.drop_zero, Nat.reduceAdd]
  repeat (go_big_quiet_step (fail))
  refine wpQuiet_nil ?_
  refine far.farO_nil ?_
  go_wp2
  go_ret2
  exact ⟨_, rfl, by rw [hCZ]; exact HE.out⟩

end Go.Proofs.Ytmchjnmmeankgaa.st
