/- The contract of the document's Pad, at a new nonce and at any. -/
import Derived.Test.YtmchjnmmeankgaaRor
namespace Go.Proofs.Ytmchjnmmeankgaa.st
open Go.ChangeShapes Go.WideShapes Go.ChangeAt Go.RowKit Go.Proofs.Ytmchjnmmeankgaa.hp Go.Proofs.Ytmchjnmmeankgaa.dg
set_option linter.unusedVariables false

theorem infoS : (Try.prog.info? 22).map (fun i => (i.zero, i.size, i.bytes)) = some (some (.slice none 0 0), 1, 24) := by kernel_rfl

/-- A pad more. -/
theorem RorcAt.add {J : Nat → Prop} {w w2 w3 w4 w5 : World} {p q b : Nat} {tv dv pv v5 : Value} {vs : List Value} {I F : Nat → Prop} {S : OS} (h : RorcAt J w p q b tv dv pv vs I F S) {n : Int × Int} (hn : n ∉ S.ks) {e : Ending}
    (hT : Tab Try.prog 46 w2 b (numbered S.ks 0 ++ [(n, .int .i64 (S.ks.length : Int))])) (c2 : Chg (fun j => j = b) w w2)
    (D : Rdrawn J w2 q tv (S.ks.length * S.L) S.L S.zs e w3) (k4 : Chg no w3 w4) (ho : w5.ownsRow 0 22 1 v5 (S.ks.length + 1) (vs ++ [.slice (some ⟨w2.heap.size, 0, none⟩) S.L S.L])) (hg : w4.grownBy w5 dv.ownBlock) (hp : ∀ k, v5.ownBlock = some k → dv.ownBlock = some k ∨ w4.heap.size ≤ k) :
    (∃ I', RorcAt J (w5.setCell ⟨p, 2, none⟩ v5) p q b tv v5 pv (vs ++ [.slice (some ⟨w2.heap.size, 0, none⟩) S.L S.L]) I' (fun k => F k ∨ (w.heap.size ≤ k ∧ k < w5.heap.size)) (S.ask n)) ∧ Chg F w (w5.setCell ⟨p, 2, none⟩ v5) ∧ w5.cell? ⟨p, 2, none⟩ = some dv ∧ w5.frozen? ⟨p, 2, none⟩ = false ∧ p < w5.heap.size := by
  obtain ⟨_, d1, d2, d3⟩ := D
  rw [OS.ask_out hn]
  have hbq : b ≠ q := h.tab.ne h.tpe.blk
  have hbp : b ≠ p := h.tab.ne h.blk
  have hpl := h.lt p h.fp
  have hql := h.lt q h.fq
  have hbl := h.lt b h.fb
  have s2 := c2.size
  have s3 := d3.size
  have s4 := k4.size
  have C4 : Chg (fun k => k = b ∨ k = q) w w4 := ((c2.mono (G := fun k => k = b ∨ k = q) (fun x hx => .inl (.inl hx))).trans d3 (fun x hx => .inl (.inr hx))).trans k4 (fun _ h => h.elim)
  have C5 : Chg (fun k => k = b ∨ k = q ∨ dv.ownBlock = some k) w w5 := (C4.mono (G := fun k => k = b ∨ k = q ∨ dv.ownBlock = some k) (fun x hx => .inl (by rcases hx with e | e; exact .inl e; exact .inr (.inl e)))).grown hg (fun k hk => .inl (.inr (.inr hk)))
  have s5 := C5.size
  have s45 := hg.size
  have np : ¬ (p = b ∨ p = q ∨ dv.ownBlock = some p) := by
    rintro (e | e | e)
    · exact hbp e.symm
    · exact h.pq e
    · exact (h.dI p e).2.1 rfl
  have C6 : Chg (fun k => k = b ∨ k = q ∨ dv.ownBlock = some k ∨ k = p) w (w5.setCell ⟨p, 2, none⟩ v5) := (C5.mono (G := fun k => k = b ∨ k = q ∨ dv.ownBlock = some k ∨ k = p) (fun x hx => .inl (by rcases hx with e | e | e; exact .inl e; exact .inr (.inl e); exact .inr (.inr (.inl e))))).setCell _ _ (.inl (.inr (.inr (.inr rfl))))
  have sz : (w5.setCell ⟨p, 2, none⟩ v5).heap.size = w5.heap.size := by simp
  have g5 := C5.heap h.blk np
  have hb : (w5.setCell ⟨p, 2, none⟩ v5).heap[p]? = some (.cells #[.pointer (some ⟨q, 0, none⟩), .int .i64 S.L, v5, .map (some b), pv] 64 (0, 0)) := by
    simp [World.setCell, Array.getElem?_modify, g5]
  have C36 : Chg (fun k => dv.ownBlock = some k ∨ k = p) w3 (w5.setCell ⟨p, 2, none⟩ v5) := (((k4.of_no (fun k => dv.ownBlock = some k)).grown hg (fun k hk => .inl hk)).mono (G := fun k => dv.ownBlock = some k ∨ k = p) (fun x hx => .inl (.inl hx))).setCell _ _ (.inl (.inr rfl))
  have dlt : ∀ k, dv.ownBlock = some k → k < w.heap.size := fun k hk => h.lt k (h.dI k hk).2.2.2.2.1
  have g6 : (w5.setCell ⟨p, 2, none⟩ v5).heap[w2.heap.size]? = some (.cells ((padsOf S.zs (S.ks.length * S.L) S.L).map (Value.int .u8)).toArray 5 (0, 0)) := C36.heap d1 (by rintro (e | e); have := dlt _ e; omega; omega)
  have hlt6 := lt_of_block g6
  have hvl : vs.length = S.ks.length := by have := h.row.1; omega
  have v5p : ∀ k, v5.ownBlock = some k → k ≠ p := by
    intro k hk
    rcases hp k hk with e | e
    · exact (h.dI k e).2.1
    · omega
  refine ⟨⟨fun k => I k ∨ k = w2.heap.size, hb, ?_, ?_, ?_, ?_, ?_, ?_, ?_, ?_, ?_, ?_, h.pq, ?_, .inl h.fp, .inl h.fq, .inl h.fb, ?_, (fun k hk => by have := h.jl k hk; omega), ?_⟩, ?_, C5.cell h.cells.2.2.1 np, (World.frozen?_of_block (C5.block p hpl np)).trans h.cells.2.2.2.2.2.1, by omega⟩
  · have := d2.chg C36 (by rintro (e | e); exact (h.dI _ e).2.2.1 rfl; exact h.pq e.symm) (fun k hk e => by rcases e with e | e; exact h.fj k hk (h.dI _ e).2.2.2.2.1; exact h.fj k hk (by rw [e]; exact h.fp))
    have e1 : (S.ks ++ [n]).length * S.L = S.ks.length * S.L + S.L := by simp [Nat.add_mul]
    show Rpe J _ q tv ((S.ks ++ [n]).length * S.L) S.zs
    rw [e1]
    exact this
  · show Tab Try.prog 46 _ b (numbered (S.ks ++ [n]) 0)
    rw [numbered_append, Nat.zero_add]
    have t3 := hT.chg d3 (fun e => hbq e)
    exact t3.chg C36 (by rintro (e | e); exact (h.dI _ e).2.2.2.1 rfl; exact hbp e)
  · show (w5.setCell ⟨p, 2, none⟩ v5).ownsRow 0 22 1 v5 (S.ks ++ [n]).length _
    rw [List.length_append]
    exact ((Chg.refl (fun k => k = p) w5).setCell _ _ (.inl rfl)).owns ho v5p
  · intro i x hx
    rw [List.getElem?_append] at hx
    split at hx
    · exact ((h.pads i x hx).chg C6 (fun k hk e => by rcases e with e | e | e | e; exact h.bI (by rw [← e]; exact hk); exact h.qI (by rw [← e]; exact hk); exact (h.dI _ e).1 hk; exact h.pI (by rw [← e]; exact hk))).mono (fun k hk => .inl hk)
    · have hi : i = vs.length := by
        have := (List.getElem?_eq_some_iff.1 hx).1
        simp at this
        omega
      subst hi
      simp at hx
      subst hx
      have := lies_block g6 S.L
      simp only [List.length_map, padsOf_length] at this
      rw [hvl]
      exact this.mono (fun k hk => .inr hk)
  · refine C6.owns h.pln (fun k hk e => ?_)
    obtain ⟨z1, z2, z3, z4, z5⟩ := h.vI k hk
    rcases e with e | e | e | e
    · exact z4 e
    · exact z3 e
    · exact (h.dI _ e).2.2.2.2.2 hk
    · exact z2 e
  · rintro (e | e)
    · exact h.pI e
    · omega
  · rintro (e | e)
    · exact h.qI e
    · omega
  · rintro (e | e)
    · exact h.bI e
    · omega
  · intro k hk
    obtain ⟨z1, z2, z3, z4, z5⟩ := h.vI k hk
    have := h.lt k z5
    exact ⟨by rintro (e | e); exact z1 e; omega, z2, z3, z4, .inl z5⟩
  · intro k hk
    rcases hp k hk with e | e
    · obtain ⟨z1, z2, z3, z4, z5, z6⟩ := h.dI k e
      have := h.lt k z5
      exact ⟨by rintro (e | e); exact z1 e; omega, z2, z3, z4, .inl z5, z6⟩
    · have hlt := (ho.lt k hk).2
      have d3l := lt_of_block d1
      refine ⟨?_, by omega, by omega, by omega, .inr ⟨by omega, hlt⟩, fun e2 => ?_⟩
      · rintro (e3 | e3)
        · have := h.lt k (h.fI k e3)
          omega
        · omega
      · have := h.lt k (h.vI k e2).2.2.2.2
        omega
  · intro k hk
    rcases hk with hk | hk
    · exact .inl (h.fI k hk)
    · exact .inr ⟨by omega, by omega⟩
  · intro k hk e
    rcases e with e | e
    · exact h.fj k hk e
    · have := h.jl k hk
      omega
  · intro k hk
    rcases hk with hk | hk
    · have := h.lt k hk
      omega
    · omega
  · exact C6.mono (fun k hk => .inl (by rcases hk with e | e | e | e; rw [e]; exact h.fb; rw [e]; exact h.fq; exact (h.dI k e).2.2.2.2.1; rw [e]; exact h.fp))

set_option maxRecDepth 100000 in
set_option maxHeartbeats 4000000 in
theorem rpad_new {J : Nat → Prop} {w : World} {p q : Nat} {F : Nat → Prop} {S : OS} (h : Rorc J p q S w F) (hok : S.Ok) (g c : Int) (hn : Fits (g, c)) (hk : (g, c) ∉ S.ks) :
    Calls Try.prog 20 #[.pointer (some ⟨p, 0, none⟩), nv g c] w fun e w' => ∃ v, e = .returned v ∧ Fine (Rorc J p q (S.ask (g, c))) w F v (((S.ask (g, c)).padOf (g, c)).map (Value.int .u8)) w' := by
  obtain ⟨ZP, hZP⟩ : ∃ ZP, (S.ask (g, c)).padOf (g, c) = ZP := ⟨_, rfl⟩
  have hAL : (S.ask (g, c)).L = S.L := by rw [OS.ask_out hk]
  have HPL : Hid (ZP.length = S.L) := by
    have := ((S.ask (g, c)).padOf_length (g, c)).trans hAL
    rw [hZP] at this
    exact this
  have HZP : Hid ((S.ask (g, c)).padOf (g, c) = ZP) := hZP
  rw [hZP]
  clear hZP hAL
  obtain ⟨b, tv, dv, pv, vs, I, h⟩ := h
  obtain ⟨wX, hwX⟩ : ∃ wX, w.alloc (.cells #[.int .i64 g, .int .i64 c] 46) = wX := ⟨_, rfl⟩
  have gX : wX.heap[w.heap.size]? = some (.cells #[.int .i64 g, .int .i64 c] 46 (0, 0)) := by rw [← hwX]; exact heap_alloc_new _ _
  have kX : Chg no w wX := by rw [← hwX]; exact (Chg.refl no w).alloc _
  have h1 : RorcAt J wX p q b tv dv pv vs I F S := h.chg kX (fun _ _ h => h) (fun _ _ h => h)
  have h2 := h1.chg ((Chg.refl no wX).drew) (fun _ _ h => h) (fun _ _ h => h)
  obtain ⟨c0, c1, c2, c3, c4, f2, f4⟩ := h1.cells
  obtain ⟨a0, b0⟩ := row_cell (xs := [_, _]) gX 0 _ rfl
  obtain ⟨a1, b1⟩ := row_cell (xs := [_, _]) gX 1 _ rfl
  have hv := h2.look hn
  rw [if_neg hk, show S.knows (g, c) = false from decide_eq_false hk] at hv
  obtain ⟨da, dc, rfl⟩ := owns_shape h.row
  have hpl := h.lt p h.fp
  have hplX := h1.lt p h1.fp
  have hlX := lt_of_block gX
  obtain ⟨N, hN⟩ : ∃ N, w.heap.size = N := ⟨_, rfl⟩
  rw [hN] at gX a0 a1 b0 b1 hlX
  go_enter Try.func20, Try.ntmps20
  go_wp2_with fail
  go_region
  have HKN : Hid ((g, c) ∉ S.ks) := hk
  have hkk := hok.k
  have hkki : (S.ks.length : Int) ≤ 1000 := by omega
  have KD : Chg no wX wX.drew.drew := (Chg.refl no wX).drew.drew
  have hD := h1.chg KD (fun _ _ h => h) (fun _ _ h => h)
  obtain ⟨w2, hrun, t2, k2, s2⟩ := hD.tab.add key46 Try.underlying62 (keyOk46 hn w) (x := (g, c)) (by rw [numbered_keys]; exact hk) (.int .i64 (S.ks.length : Int))
  simp only [kvv] at hrun
  have hbq : b ≠ q := h1.tab.ne h1.tpe.blk
  have hbp : b ≠ p := h1.tab.ne h1.blk
  have hNb : N ≠ b := by have := h.lt b h.fb; omega
  have hNq : N ≠ q := by have := h.lt q h.fq; omega
  have d0 := k2.cell (KD.cell c0 id) (by simpa using hbp.symm)
  have d1 := k2.cell (KD.cell c1 id) (by simpa using hbp.symm)
  have d2 := k2.cell (KD.cell c2 id) (by simpa using hbp.symm)
  have dp2 : p < w2.heap.size := by have := k2.size; have e : wX.drew.drew.heap.size = wX.heap.size := rfl; omega
  have K2D : Chg (fun j => j = b) wX.drew.drew w2.drew := k2.drew
  have hRP : Rpe J w2.drew q tv (S.ks.length * S.L) S.zs := hD.tpe.chg K2D (fun e => hbq e.symm) (fun k hk e => hD.fj k hk (by rw [e]; exact hD.fb))
  have hd : S.ks.length * S.L ≤ 100000000 := by
    have e2 := hok.l2
    have := Nat.mul_le_mul hkk e2
    omega
  have HD := rdraw_any hRP hd S.L hok.l1 (by have := hok.l2; omega)
  obtain ⟨i0, hi, hz0, hz1, hz2⟩ := info_parts infoS
  have HE : Hid (∀ e3 w3, Rdrawn J w2.drew q tv (S.ks.length * S.L) S.L S.zs e3 w3 → w3.cell? ⟨p, 2, none⟩ = some (.slice da S.ks.length dc) ∧ p < w3.heap.size ∧
      (w3.alloc (.cells #[.slice (some ⟨w2.heap.size, 0, none⟩) S.L S.L] 22)).ownsRow 0 22 1 (.slice da S.ks.length dc) S.ks.length vs ∧ (∀ (j : Nat) (u : Value), ([.slice (some ⟨w2.heap.size, 0, none⟩) S.L S.L] : List Value)[j]? = some u → (w3.alloc (.cells #[.slice (some ⟨w2.heap.size, 0, none⟩) S.L S.L] 22)).cell? ((⟨w3.heap.size, 0, none⟩ : Addr).add j) = some u) ∧
      ∀ v5 w5, w5.ownsRow 0 22 1 v5 (S.ks.length + 1) (vs ++ [.slice (some ⟨w2.heap.size, 0, none⟩) S.L S.L]) → (w3.alloc (.cells #[.slice (some ⟨w2.heap.size, 0, none⟩) S.L S.L] 22)).grownBy w5 (Value.slice da S.ks.length dc).ownBlock → (∀ k, v5.ownBlock = some k → (Value.slice da S.ks.length dc).ownBlock = some k ∨ (w3.alloc (.cells #[.slice (some ⟨w2.heap.size, 0, none⟩) S.L S.L] 22)).heap.size ≤ k) →
        w5.cell? ⟨p, 2, none⟩ = some (.slice da S.ks.length dc) ∧ w5.frozen? ⟨p, 2, none⟩ = false ∧ p < w5.heap.size ∧ Fine (Rorc J p q (S.ask (g, c))) w F (.slice none 0 0) [] (w5.setCell ⟨p, 2, none⟩ v5)) := by
    intro e3 w3 D
    have D0 := D
    obtain ⟨_, x1, x2, x3⟩ := D
    have s3 := x3.size
    have e2 : w2.drew.heap.size = w2.heap.size := rfl
    refine ⟨x3.cell (show w2.drew.cell? ⟨p, 2, none⟩ = _ from d2) (by simpa using hD.pq), by omega, ?_, news_at, ?_⟩
    · have o2 := K2D.owns hD.row (fun k hk e => (hD.dI k hk).2.2.2.1 e)
      have o3 := x3.owns o2 (fun k hk e => (hD.dI k hk).2.2.1 e)
      exact ((Chg.refl no w3).alloc _).owns o3 (fun _ _ h => h)
    · intro v5 w5 o5 g5 n5
      obtain ⟨⟨I', X⟩, CX, y1, y2, y3⟩ := hD.add (w2 := w2.drew) hk t2 K2D D0 ((Chg.refl no w3).alloc _) o5 g5 n5
      have sX := kX.size
      have e3 : wX.drew.drew.heap.size = wX.heap.size := rfl
      refine ⟨y1, y2, y3, _, ⟨_, _, _, _, _, _, X⟩, ?_, .inl ⟨rfl, rfl⟩, ((kX.then KD).of_no F).then CX⟩
      intro k hk
      have sz : (w5.setCell ⟨p, 2, none⟩ v5).heap.size = w5.heap.size := by simp
      have hs := CX.size
      rcases hk with hk | hk
      · have := h.lt k hk
        exact ⟨.inl hk, by omega⟩
      · exact ⟨.inr (by omega), by omega⟩
  have H1 : ∀ u ∈ ([.slice (some ⟨w2.heap.size, 0, none⟩) S.L S.L] : List Value), u.oneCell' = true := by
    intro u hu
    simp at hu
    subst hu
    rfl
  have hl2 := hok.l2
  clear h h1 h2 hD hRP hwX gX t2 K2D KD hd hk kX hv k2 s2
  go_wp2_with fail
  go_region
  go_upto_region 5 with fail
  go_cut [] from 18 to 46 (fun wc => Fine (Rorc J p q (S.ask (g, c))) w F (.slice none 0 0) [] wc)
  case first =>
    go_region_law (first
      | (refine step_append_at rfl (.tmp 33) (.tmp 43) 38 rfl 22 i0 (.slice none 0 0) 1 24 Try.underlying38 hi hz0 hz1 hz2 rfl (by decide) (.slice da S.ks.length dc) S.ks.length vs (by simp [Act.eval]) HO.out ⟨w3.heap.size, 0, none⟩ 1 1 [.slice (some ⟨w2.heap.size, 0, none⟩) S.L S.L] (by simp [Act.eval]) rfl HNw.out H1 (by unfold maxLen; omega) (by omega) ?_; intro v5 w5 o5 g5 n5; obtain ⟨a5, c5', rfl⟩ := owns_shape o5; obtain ⟨y1, y2, y3, y4⟩ := HEnd.out _ _ o5 g5 n5; have HY : Hid _ := y4; clear y4)
      | (refine step_call rfl 38 #[.pointer (some ⟨q, 0, none⟩), .int .i64 S.L] (by go_simp) HD ?_; rintro e w3 D3; obtain ⟨x1, x2, x3, x4, x5⟩ := HE.out e w3 D3; have HO : Hid _ := x3; have HNw : Hid _ := x4; have HEnd : Hid _ := x5; obtain ⟨rfl, _⟩ := D3; clear x3 x4 x5; refine ⟨_, rfl, ?_⟩))
    all_goals (go_wp2; go_meet; case rel => exact HY.out)
  case rest =>
    clear HE HD
    obtain ⟨F', ⟨b', tv', dv', pv', vs', I', X⟩, hF', _, hC⟩ := hcut
    have hm : (g, c) ∈ (S.ask (g, c)).ks := by rw [OS.ask_out HKN.out]; simp
    obtain ⟨a, cp, x, y, rfl, hi', hcell, hL⟩ := X.entry hm
    have hix : (S.ask (g, c)).ks.idxOf (g, c) = S.ks.length := by rw [OS.ask_out HKN.out]; exact idx_new HKN.out
    have hkl : (S.ask (g, c)).ks.length = S.ks.length + 1 := by rw [OS.ask_out HKN.out]; simp
    have hAL : (S.ask (g, c)).L = S.L := by rw [OS.ask_out HKN.out]
    obtain ⟨e0, e1, e2, e3, e4, _, _⟩ := X.cells
    rw [hix, hAL] at hcell
    rw [hAL] at hL
    rw [hkl] at e2
    rw [HZP.out] at hL
    have HC := copyBytes_any (.slice x S.L y) ZP I' wc hL (by have := HPL.out; omega)
    have HX : Hid (Rorc J p q (S.ask (g, c)) wc F') := ⟨_, _, _, _, _, _, X⟩
    have HF' : Hid _ := hF'
    have HCC : Hid _ := hC
    have hpc : p < wc.heap.size := X.lt p X.fp
    clear X hm hi' hix hkl hAL hL hF' hC e0 e1 e3 e4 d0 d1 d2
    go_wp2_with fail
    refine HC.mono ?_
    rintro e w6 ⟨v6, rfl, N6⟩
    obtain ⟨g6, c6', rfl⟩ := N6.shape
    have HN6 : Hid (New wc ZP (.slice g6 ZP.length c6') w6) := N6
    clear N6 HC
    go_wp2
    go_ret
    exact ⟨_, rfl, fine_new (HX.out.same HN6.out.2) HF'.out HCC.out HN6.out⟩

/-- The document's Pad, at any nonce. -/
theorem rpad_any {J : Nat → Prop} {w : World} {p q : Nat} {F : Nat → Prop} {S : OS} (h : Rorc J p q S w F) (hok : S.Ok) (g c : Int) (hn : Fits (g, c)) :
    Calls Try.prog 20 #[.pointer (some ⟨p, 0, none⟩), nv g c] w fun e w' => ∃ v, e = .returned v ∧ Fine (Rorc J p q (S.ask (g, c))) w F v (((S.ask (g, c)).padOf (g, c)).map (Value.int .u8)) w' := by
  by_cases hk : (g, c) ∈ S.ks
  · rw [OS.ask_in hk]
    refine (rpad_old h hok g c hn hk).mono ?_
    rintro e w' ⟨v, rfl, N⟩
    refine ⟨v, rfl, fine_new (w1 := w) (h.same N.2) (fun k hk => ⟨.inl hk, ?_⟩) (Chg.refl F w) N⟩
    obtain ⟨b, tv, dv, pv, vs, I, h⟩ := h
    exact h.lt k hk
  · exact rpad_new h hok g c hn hk

end Go.Proofs.Ytmchjnmmeankgaa.st
