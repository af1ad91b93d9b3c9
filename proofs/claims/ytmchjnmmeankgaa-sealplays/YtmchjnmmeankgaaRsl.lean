/- The contract of the document's Seal where it seals. -/
import Derived.Test.YtmchjnmmeankgaaRse
namespace Go.Proofs.Ytmchjnmmeankgaa.st
open Go.ChangeShapes Go.WideShapes Go.ChangeAt Go.RowKit Go.Proofs.Ytmchjnmmeankgaa.hp Go.Proofs.Ytmchjnmmeankgaa.dg
set_option linter.unusedVariables false

theorem exec_append_run {P : Program} {w : World} {o : Oper} {a : Act} (s x : Operand) (t tn : TypeId) (ho : o.op = .call { callee := .builtin .append, args := #[s, x], argTypes := #[t, tn] }) (vs vx : Value) (hs : a.eval s = vs) (hx : a.eval x = vx) {v' : Value} {w' : World}
    (hr : (Builtin.append_ #[t, tn] o.type #[vs, vx]).run P w = .ok v' w') : (execOp a.eval o).run P w = .ok (.value v') w' := by
  unfold execOp
  simp only [ho, resolve, invoke, builtin, Sem.run_bind, Sem.run_pure, Result.andThen_ok, List.map_toArray, List.map_cons, List.map_nil, hs, hx, hr]

set_option maxRecDepth 100000 in
set_option maxHeartbeats 4000000 in
theorem rseal_ok {J' : Nat → Prop} {w : World} {p q : Nat} {F J : Nat → Prop} {S : OS} (h : Rorc J' p q S w F) (hok : S.Ok) (hp9 : S.pl.length ≤ 9000000) (g c : Int) (hn : Fits (g, c)) (t : Value) (zs : List Int) (ht : Lies J w t (zs.map (Value.int .u8))) (hJ : ∀ k, J k → ¬ F k ∧ k < w.heap.size) (hw : S.why g c zs.length = 0) :
    Calls Try.prog 14 #[.pointer (some ⟨p, 0, none⟩), nv g c, t] w fun e w' => ∃ v, e = .returned (.tuple #[v, .int .i64 0]) ∧ Fine (Rorc J' p q (S.put (g, c) zs)) w F v ((S.cellOf (g, c) zs).map (Value.int .u8)) w' ∧ Capd v := by
  obtain ⟨hm, hg, hL, hkn⟩ := why_zero hw
  obtain ⟨i0, hi, hz0, hz1, hz2⟩ := info_parts info5
  have HM := fun w => rmay_any w g c
  simp only [hm] at HM
  have hgb : (g == 0) = false := by simpa using hg
  have hbox : Chg no w (w.alloc (.cells #[.int .i64 g, .int .i64 c] 46)) := (Chg.refl no w).alloc _
  have HB : Hid ((w.alloc (.cells #[.int .i64 g, .int .i64 c] 46)).heap[w.heap.size]? = some (.cells #[.int .i64 g, .int .i64 c] 46 (0, 0))) := heap_alloc_new _ _
  have HK : Hid (∀ w1, Chg no w w1 → w1.cell? ⟨p, 1, none⟩ = some (.int .i64 S.L) ∧ p < w1.heap.size ∧ Calls Try.prog 22 #[.pointer (some ⟨p, 0, none⟩), nv g c] w1 fun e w' => e = .returned (.bool false) ∧ Chg no w1 w') := by
    intro w1 k
    have h1 := h.same k
    have h3 := rknown_any h1 g c hn
    rw [hkn] at h3
    refine ⟨?_, h1.plt, h3⟩
    obtain ⟨b, tv, dv, pv, vs, I, h1⟩ := h1
    exact h1.cells.2.1
  obtain ⟨x, cx, rfl, _⟩ := ht.slice
  simp only [List.length_map] at ht ⊢
  have HLT : Hid (Lies J w (.slice x zs.length cx) (zs.map (Value.int .u8))) := ht
  have HJ : Hid (∀ k, J k → ¬ F k ∧ k < w.heap.size) := hJ
  have HH : Hid (Rorc J' p q S w F) := h
  have hpl := h.plt
  have l2 := hok.l2
  have lp := hok.p
  have l1 := hok.l1
  have HOK : Hid (({ S with pl := S.pl ++ zs } : OS).Ok) := by
    refine ⟨hok.l1, hok.l2, hok.k, ?_⟩
    show (S.pl ++ zs).length ≤ 10000000
    rw [List.length_append]
    omega
  have hzl : zs.length ≤ 4000 := by omega
  have hzi : (zs.length : Int) ≤ 4000 := by omega
  have hLi : (S.L : Int) ≤ 4000 := by omega
  have hLs : Hid (zs.length = S.L) := hL
  have HPD : Hid (((S.put (g, c) zs).padOf (g, c)).length = S.L) := by
    have e := (S.put (g, c) zs).padOf_length (g, c)
    exact e
  obtain ⟨pad, hpad⟩ : ∃ pad, (S.put (g, c) zs).padOf (g, c) = pad := ⟨_, rfl⟩
  obtain ⟨S2, hS2⟩ : ∃ S2, S.put (g, c) zs = S2 := ⟨_, rfl⟩
  obtain ⟨nb, hnb⟩ : ∃ nb, nbs g c = nb := ⟨_, rfl⟩
  have HNB : Hid (nb.length = 12) := by rw [← hnb]; exact nbs_length g c
  have HCO : Hid (S.cellOf (g, c) zs = nb ++ xor2 zs pad) := by
    show nbs g c ++ xor2 zs ((S.put (g, c) zs).padOf (g, c)) = _
    rw [hpad, hnb]
  rw [hpad] at HPD
  have HBY := fun w => rbytes_new w g c hm
  rw [hnb] at HBY
  have HPAD : Hid (∀ w' F', Rorc J' p q { S with pl := S.pl ++ zs } w' F' → Calls Try.prog 20 #[.pointer (some ⟨p, 0, none⟩), nv g c] w' fun e w'' => ∃ v, e = .returned v ∧ Fine (Rorc J' p q S2) w' F' v (pad.map (Value.int .u8)) w'') := by
    intro w' F' ho
    have := rpad_any ho HOK.out g c hn
    rw [← hS2, ← hpad]
    exact this
  rw [hS2]
  have hlL : (zs.length == S.L) = true := by simpa using hL
  obtain ⟨n, hnl⟩ : ∃ n, zs.length = n := ⟨_, rfl⟩
  have HFW : Hid (∀ k, F k → k < w.heap.size) := h.lt
  clear h ht hJ hok hpad hS2 hnb lp hkn hw hm hg
  rw [← hLs.out] at HK HPD
  have hn1 : 1 ≤ zs.length := by omega
  clear hL hlL hLi l2 l1
  rw [hnl] at HK HPD HLT hzl hzi hn1 ⊢
  go_enter Try.func14, Try.ntmps14
  go_wp2_with fail
  refine (HM _).mono ?_
  rintro e w1 ⟨rfl, k1⟩
  have gb := k1.heap HB.out id
  obtain ⟨a0, b0⟩ := row_cell (xs := [_, _]) gb 0 _ rfl
  obtain ⟨a1, b1⟩ := row_cell (xs := [_, _]) gb 1 _ rfl
  have K := hbox.then k1
  obtain ⟨c1, p1, HKN⟩ := HK.out _ K
  clear HB HK k1 hbox HM
  go_wp2_with fail
  refine HKN.mono ?_
  rintro e w2 ⟨rfl, k2⟩
  have K2 := K.then k2
  have gb2 := k2.heap gb id
  obtain ⟨b, tv, dv, pv, vs, I, h2⟩ := HH.out.same K2
  obtain ⟨e0, e1, e2, e3, e4, f2, f4⟩ := h2.cells
  have hp2 := h2.lt p h2.fp
  have HL2 : Hid (Lies J w2 (.slice x n cx) (zs.map (Value.int .u8))) := HLT.out.chg K2 (fun _ _ h => h)
  have HO2 : Hid (RorcAt J' w2 p q b tv dv pv vs I F S) := h2
  have HBX : Hid (w2.heap[w.heap.size]? = some (.cells #[.int .i64 g, .int .i64 c] 46 (0, 0))) := gb2
  obtain ⟨pa, pc, rfl⟩ := owns_shape h2.pln
  have HNL : Hid (zs.length = n) := hnl
  have hNlt := lt_of_block gb2
  clear gb gb2 HKN a0 b0 a1 b1 c1 h2 HH k2 K hnl
  go_wp2_with (at_builtin; refine wpList_append_grew rfl _ _ 22 rfl 5 i0 (.int .u8 0) 1 Try.underlying22 hi hz0 hz1 hz2 rfl (.slice pa S.pl.length pc) S.pl.length (S.pl.map (Value.int .u8)) rfl HO2.out.pln J (.slice x n cx) (zs.map (Value.int .u8)) rfl HL2.out (ints_oneCell _ _) (by have := HNL.out; simp; unfold maxLen; omega) (by have := HNL.out; simp; omega) ?_; intro v5 w5 G5; obtain ⟨X5, CX5, y1, y2, y3⟩ := HO2.out.put G5; have HX5 : Hid _ := X5; have HC5 : Hid _ := CX5; obtain ⟨a5, c5, rfl⟩ := owns_shape G5.own; have HG5 : Hid _ := G5; clear X5 CX5 G5)
  have HA1 : Hid (Rorc J' p q { S with pl := S.pl ++ zs } (w5.setCell ⟨p, 4, none⟩ (.slice a5 (S.pl.length + zs.length) c5)) (fun k => F k ∨ (w2.heap.size ≤ k ∧ k < w5.heap.size))) := ⟨_, _, _, _, _, _, by have := HX5.out; simp only [List.length_map] at this; exact this⟩
  have HA2 : Hid (Chg F w2 (w5.setCell ⟨p, 4, none⟩ (.slice a5 (S.pl.length + zs.length) c5))) := by have := HC5.out; simp only [List.length_map] at this; exact this
  have hs5 : (w5.setCell ⟨p, 4, none⟩ (.slice a5 (S.pl.length + zs.length) c5)).heap.size = w5.heap.size := by simp
  obtain ⟨wA, hwA⟩ : ∃ wA, w5.setCell ⟨p, 4, none⟩ (.slice a5 (S.pl.length + zs.length) c5) = wA := ⟨_, rfl⟩
  rw [hwA] at HA1 HA2 hs5 ⊢
  obtain ⟨N, hN⟩ : ∃ N, w.heap.size = N := ⟨_, rfl⟩
  have gA : wA.heap[N]? = some (.cells #[.int .i64 g, .int .i64 c] 46 (0, 0)) := by rw [← hN]; exact HA2.out.heap HBX.out (fun e => Nat.lt_irrefl _ (HFW.out _ e))
  have HN : Hid (w.heap.size = N) := hN
  simp only [hN]
  clear hwA HX5 HC5 HG5 y1 y2 y3 hN HBX HO2
  obtain ⟨pG, hpG⟩ : ∃ pG : World → Prop, ∀ w', pG w' ↔ w'.heap[N]? = some (.cells #[.int .i64 g, .int .i64 c] 46 (0, 0)) := ⟨_, fun _ => Iff.rfl⟩
  have xN0 : ∀ x' : far.InC pG, x'.w.cell? ⟨N, 0, none⟩ = some (.int .i64 g) := fun x => (row_cell (xs := [_, _]) ((hpG _).1 x.h) 0 _ rfl).1
  have xN1 : ∀ x' : far.InC pG, x'.w.cell? ⟨N, 1, none⟩ = some (.int .i64 c) := fun x => (row_cell (xs := [_, _]) ((hpG _).1 x.h) 1 _ rfl).1
  have iG : Nonempty (far.InC pG) := ⟨⟨wA, (hpG _).2 gA⟩⟩
  have HpG : Hid (∀ w', pG w' ↔ w'.heap[N]? = some (.cells #[.int .i64 g, .int .i64 c] 46 (0, 0))) := hpG
  have Y0 : Chg no wA wA.drew := (Chg.refl no wA).drew
  have HGA : Hid (wA.heap[N]? = some (.cells #[.int .i64 g, .int .i64 c] 46 (0, 0))) := gA
  clear hpG gA
  refine far.region_farM (fun κ w' => pG w') [1, 5, 6, 7] (by kernel_rfl) (by kernel_rfl) ((HpG.out _).2 (Y0.heap HGA.out id)) ?_
  intro L e1' e2' e3'
  refine far.farO_stretch pG 1 0 0 e1' e2' e3' (by kernel_rfl) (by kernel_rfl) (fun κ w' hk1 hk2 hC => hC) ?_
  simp only [List.take_succ_cons, List.take_zero, List.drop_succ_cons, List.drop_zero, Nat.reduceAdd]
  repeat (go_big_quiet_step (fail))
  refine wpQuiet_nil ?_
  refine far.farO_enter e1' e2' 0 rfl rfl 34 #[nv g c] (by kernel_rfl) (by kernel_rfl) ?_
  refine (HBY _).mono ?_
  rintro e wa ⟨va, rfl, Na⟩
  obtain ⟨xa, ca, rfl⟩ := Na.shape
  have Ka := Y0.then Na.2
  have ga := Ka.heap HGA.out id
  refine ⟨_, rfl, (HpG.out _).2 ga, ?_⟩
  simp only [HNB.out] at Na ⊢
  simp only [Act.put, List.setIfInBounds_toArray, List.set_cons_succ, List.set_cons_zero, Nat.reduceAdd]
  refine far.farO_stretch pG 3 0 2 e1' e2' e3' (by kernel_rfl) (by kernel_rfl) (fun κ w' hk1 hk2 hC => hC) ?_
  simp only [List.take_succ_cons, List.take_zero, List.drop_succ_cons, List.drop_zero, Nat.reduceAdd]
  repeat (go_big_quiet_step (fail))
  refine wpQuiet_nil ?_
  refine far.farO_enter e1' e2' 1 rfl rfl 20 #[.pointer (some ⟨p, 0, none⟩), nv g c] (by kernel_rfl) (by kernel_rfl) ?_
  refine (HPAD.out _ _ (HA1.out.same Ka)).mono ?_
  rintro e wb ⟨vb, rfl, Fb, hb1, hb2, hb3, hb4⟩
  have sK2 := K2.size
  have sA := HA2.out.size
  have sa := Ka.size
  have sb := hb4.size
  have nN : ¬ (F N ∨ (w2.heap.size ≤ N ∧ N < w5.heap.size)) := by
    have := HN.out
    rintro (e | e)
    · have := HFW.out N e
      omega
    · omega
  have gb := hb4.heap ga nN
  refine ⟨_, rfl, (HpG.out _).2 gb, ?_⟩
  obtain ⟨xb, cb, rfl, _⟩ := hb3.slice
  simp only [List.length_map, HPD.out] at hb3 ⊢
  simp only [Act.put, List.setIfInBounds_toArray, List.set_cons_succ, List.set_cons_zero, Nat.reduceAdd]
  have CB : Chg F w2 wb := (HA2.out.trans Ka (fun _ h => h.elim)).trans hb4 (fun k hk => by rcases hk with e | e; exact .inl e; exact .inr e.1)
  have hLt : Lies (fun _ => True) wb (.slice x n cx) (zs.map (Value.int .u8)) := (HL2.out.chg CB (fun k hk => (HJ.out k hk).1)).mono (fun _ _ => trivial)
  have HX := rxor_any wb (fun _ => True) (.slice x n cx) zs hLt (.slice xb n cb) pad (hb3.mono (fun _ _ => trivial)) (by have := HNL.out; omega) (by have := HPD.out; omega)
  refine far.farO_enter e1' e2' 2 rfl rfl 27 #[.slice x n cx, .slice xb n cb] (by kernel_rfl) (by kernel_rfl) ?_
  refine HX.mono ?_
  rintro e wc ⟨vc, rfl, Nc⟩
  have gc := Nc.2.heap gb id
  refine ⟨_, rfl, (HpG.out _).2 gc, ?_⟩
  obtain ⟨xc, cc, rfl⟩ := Nc.shape
  have hxl : (xor2 zs pad).length = n := by rw [xor2_length]; exact HNL.out
  simp only [hxl] at Nc ⊢
  simp only [Act.put, List.setIfInBounds_toArray, List.set_cons_succ, List.set_cons_zero, Nat.reduceAdd]
  have e1A : wA.drew.heap.size = wA.heap.size := rfl
  have hal : ∀ k, (Value.slice xa 12 ca).ownBlock = some k → wA.heap.size ≤ k ∧ k < wa.heap.size := fun k hk => Na.1.lt k hk
  have oc : wc.ownsRow 0 5 1 (.slice xa 12 ca) 12 (nb.map (Value.int .u8)) := by
    have o1 := Na.1
    rw [HNB.out] at o1
    refine owns_base (Nc.2.owns (hb4.owns o1 (fun k hk e => ?_)) (fun _ _ h => h)) (Nat.zero_le _)
    have := hal k hk
    rcases e with e | e
    · have := HFW.out _ e
      omega
    · omega
  have hxn : xor2 zs pad ≠ [] := by
    intro e
    rw [e] at hxl
    simp at hxl
    omega
  obtain ⟨vd, wd, hrun, Gd⟩ := run_append_grew (P := Try.prog) wc 22 22 5 i0 (.int .u8 0) 1 Try.underlying22 hi hz0 hz1 hz2 rfl (.slice xa 12 ca) 12 (nb.map (Value.int .u8)) (by omega) oc (fun _ => True) (.slice xc n cc) ((xor2 zs pad).map (Value.int .u8)) (by simpa using hxn) (Nc.lies.mono (fun _ _ => trivial)) (ints_oneCell _ _) (by simp [hxl]; unfold maxLen; omega) (by simp [hxl]; omega)
  have Cd : Chg (fun k => (Value.slice xa 12 ca).ownBlock = some k) wc wd := (Chg.refl _ wc).grown Gd.grown (fun k hk => .inl hk)
  have hNA : N < wA.heap.size := lt_of_block HGA.out
  refine farO_does e1' e2' 3 rfl rfl (w' := wd) vd (by kernel_rfl) (exec_append_run (.tmp 39) (.tmp 44) 22 22 rfl _ _ rfl rfl hrun) ?_ ?_
  · exact (HpG.out _).2 (Cd.heap gc (fun e => by have := hal _ e; omega))
  obtain ⟨CZ, hCZ⟩ : ∃ CZ, S.cellOf (g, c) zs = CZ := ⟨_, rfl⟩
  have hE : Fine (Rorc J' p q S2) w F vd (CZ.map (Value.int .u8)) wd ∧ Capd vd ∧ ∃ xd cd, vd = .slice xd CZ.length cd := by
    have hco : CZ = nb ++ xor2 zs pad := by rw [← hCZ]; exact HCO.out
    have own5 := Gd.own
    rw [← List.map_append, ← hco, List.length_map] at own5
    have hlen : 12 + (xor2 zs pad).length = CZ.length := by rw [hco, List.length_append, HNB.out]
    rw [hlen] at own5
    have sc := Nc.2.size
    have sd := Cd.size
    have hR : Rorc J' p q S2 wd Fb := by
      refine (hb1.same Nc.2).chg Cd (fun k hk e => ?_) (fun k hk e => ?_)
      · have h1 := hal k e
        obtain ⟨z1, z2⟩ := hb2 k hk
        rcases z1 with (z1 | z1) | z1
        · have := HFW.out k z1
          omega
        · omega
        · omega
      · have h1 := hal k e
        obtain ⟨b9, tv9, dv9, pv9, vs9, I9, h9⟩ := HA1.out
        have := h9.jl k hk
        omega
    refine ⟨⟨Fb, hR, ?_, ?_, ?_⟩, ?_, ?_⟩
    · intro k hk
      obtain ⟨z1, z2⟩ := hb2 k hk
      refine ⟨?_, by omega⟩
      rcases z1 with (z1 | z1) | z1
      · exact .inl z1
      · exact .inr (by omega)
      · exact .inr (by omega)
    · refine Lies.of_owns own5 (fun k hk => ?_)
      have hlt := (own5.lt k hk).2
      rcases Gd.place k hk with e | e
      · have h1 := hal k e
        refine ⟨by omega, hlt, fun e2 => ?_⟩
        obtain ⟨z1, z2⟩ := hb2 k e2
        rcases z1 with (z1 | z1) | z1
        · have := HFW.out k z1
          omega
        · omega
        · omega
      · exact ⟨by omega, hlt, fun e2 => by have := (hb2 k e2).2; omega⟩
    · exact (((K2.of_no F).then CB).trans Nc.2 (fun _ h => h.elim)).trans Cd (fun k hk => .inr (by have := hal k hk; omega))
    · obtain ⟨xd, cd, hv⟩ := owns_shape own5
      exact ⟨xd, _, cd, hv, cap_ge own5 hv, cap_le own5 hv⟩
    · exact owns_shape own5
  obtain ⟨hE1, hE2, xd, cd, rfl⟩ := hE
  have HE : Hid (Fine (Rorc J' p q S2) w F (.slice xd CZ.length cd) (CZ.map (Value.int .u8)) wd ∧ Capd (.slice xd CZ.length cd)) := ⟨hE1, hE2⟩
  simp only [Act.put, List.setIfInBounds_toArray, List.set_cons_succ, List.set_cons_zero, Nat.reduceAdd]
  clear HX hLt Nc hb1 hb2 hb3 hb4 CB ga gb gc HPAD HBY HA1 HA2 Gd hrun Cd oc hal Na hE1 hE2 hxn hxl
  refine far.farO_stretch pG 2 4 4 e1' e2' e3' (by kernel_rfl) (by kernel_rfl) (fun κ w' hk1 hk2 hC => hC) ?_
  simp only [List.take_succ_cons, List.take_zero, List.drop_succ_cons, List.drop_zero, Nat.reduceAdd]
  repeat (go_big_quiet_step (fail))
  refine wpQuiet_nil ?_
  refine far.farO_nil ?_
  go_wp2
  go_ret2
  exact ⟨_, rfl, by rw [hCZ]; exact HE.out⟩

end Go.Proofs.Ytmchjnmmeankgaa.st
