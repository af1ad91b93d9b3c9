/- Contracts of the document's Seal. -/
import Derived.Test.YtmchjnmmeankgaaRpa
namespace Go.Proofs.Ytmchjnmmeankgaa.st
open Go.ChangeShapes Go.WideShapes Go.ChangeAt Go.RowKit Go.Proofs.Ytmchjnmmeankgaa.hp Go.Proofs.Ytmchjnmmeankgaa.dg
set_option linter.unusedVariables false

theorem Rorc.lt {J : Nat → Prop} {w : World} {p q : Nat} {F : Nat → Prop} {S : OS} (h : Rorc J p q S w F) : ∀ k, F k → k < w.heap.size := by
  obtain ⟨b, tv, dv, pv, vs, I, h⟩ := h
  exact h.lt

theorem Rorc.plt {J : Nat → Prop} {w : World} {p q : Nat} {F : Nat → Prop} {S : OS} (h : Rorc J p q S w F) : p < w.heap.size := by
  obtain ⟨b, tv, dv, pv, vs, I, h⟩ := h
  exact h.lt p h.fp

set_option maxRecDepth 100000 in
set_option maxHeartbeats 2000000 in
theorem rseal_err {J' : Nat → Prop} {w : World} {p q : Nat} {F J : Nat → Prop} {S : OS} (h : Rorc J' p q S w F) (g c : Int) (hn : Fits (g, c)) (t : Value) (zs : List Int) (ht : Lies J w t (zs.map (Value.int .u8))) (hz : zs.length ≤ 100000000) (hL : S.L ≤ 4000) (hw : S.why g c zs.length ≠ 0) :
    Calls Try.prog 14 #[.pointer (some ⟨p, 0, none⟩), nv g c, t] w fun e w' => e = .returned (.tuple #[.slice none 0 0, .int .i64 (S.why g c zs.length)]) ∧ Chg no w w' := by
  have HM := fun w => rmay_any w g c
  have hbox : Chg no w (w.alloc (.cells #[.int .i64 g, .int .i64 c] 46)) := (Chg.refl no w).alloc _
  have HB : Hid ((w.alloc (.cells #[.int .i64 g, .int .i64 c] 46)).heap[w.heap.size]? = some (.cells #[.int .i64 g, .int .i64 c] 46 (0, 0))) := heap_alloc_new _ _
  have HK : Hid (∀ w1, Chg no w w1 → w1.cell? ⟨p, 1, none⟩ = some (.int .i64 S.L) ∧ p < w1.heap.size ∧ Calls Try.prog 22 #[.pointer (some ⟨p, 0, none⟩), nv g c] w1 fun e w' => e = .returned (.bool (S.knows (g, c))) ∧ Chg no w1 w') := by
    intro w1 k
    have h1 := h.same k
    refine ⟨?_, h1.plt, rknown_any h1 g c hn⟩
    obtain ⟨b, tv, dv, pv, vs, I, h1⟩ := h1
    exact h1.cells.2.1
  obtain ⟨x, cx, rfl, _⟩ := ht.slice
  simp only [List.length_map]
  obtain ⟨n, hnl⟩ : ∃ n, zs.length = n := ⟨_, rfl⟩
  rw [hnl] at hw hz ⊢
  have hpl := h.plt
  clear h ht hnl
  have hni : (n : Int) ≤ 100000000 := by omega
  have hLi : (S.L : Int) ≤ 4000 := by omega
  cases hm : may g c with
  | false =>
    have e1 : S.why g c n = 1 := by unfold OS.why; rw [if_pos (.inl hm)]
    rw [e1]
    simp only [hm] at HM
    clear hw e1
    go_enter Try.func14, Try.ntmps14
    go_wp2_with fail
    refine (HM _).mono ?_
    rintro e w1 ⟨rfl, k1⟩
    go_wp2
    go_ret2
    exact ⟨rfl, hbox.then k1⟩
  | true =>
    simp only [hm] at HM
    by_cases hg : g = 0
    · have e1 : S.why g c n = 1 := by unfold OS.why; rw [if_pos (.inr hg)]
      rw [e1]
      subst hg
      clear hw e1
      go_enter Try.func14, Try.ntmps14
      go_wp2_with fail
      refine (HM _).mono ?_
      rintro e w1 ⟨rfl, k1⟩
      have gb := k1.heap HB.out id
      obtain ⟨a0, b0⟩ := row_cell (xs := [_, _]) gb 0 _ rfl
      have K := hbox.then k1
      clear gb HB
      go_wp2
      go_ret2
      exact ⟨rfl, K⟩
    · have hgb : (g == 0) = false := by simpa using hg
      by_cases hnL : n = S.L
      · have hkn : S.knows (g, c) = true := by
          unfold OS.why at hw
          rw [if_neg (by simp [hm, hg]), if_neg (by simp [hnL])] at hw
          cases hk : S.knows (g, c) with
          | true => rfl
          | false => simp [hk] at hw
        have e1 : S.why g c n = 10 := by unfold OS.why; rw [if_neg (by simp [hm, hg]), if_neg (by simp [hnL]), if_pos hkn]
        rw [e1]
        simp only [hkn] at HK
        clear hw e1 hkn
        subst hnL
        go_enter Try.func14, Try.ntmps14
        go_wp2_with fail
        refine (HM _).mono ?_
        rintro e w1 ⟨rfl, k1⟩
        have gb := k1.heap HB.out id
        obtain ⟨a0, b0⟩ := row_cell (xs := [_, _]) gb 0 _ rfl
        obtain ⟨a1, b1⟩ := row_cell (xs := [_, _]) gb 1 _ rfl
        have K := hbox.then k1
        obtain ⟨c1, p1, HKN⟩ := HK.out _ K
        clear gb HB HK k1
        go_wp2_with fail
        refine HKN.mono ?_
        rintro e w2 ⟨rfl, k2⟩
        go_wp2
        go_ret2
        exact ⟨rfl, K.then k2⟩
      · have e1 : S.why g c n = 2 := by unfold OS.why; rw [if_neg (by simp [hm, hg]), if_pos hnL]
        rw [e1]
        have hne : (n == S.L) = false := by simpa using hnL
        have hne2 : ((n : Int) == (S.L : Int)) = false := by simp; omega
        clear hw e1
        go_enter Try.func14, Try.ntmps14
        go_wp2_with fail
        refine (HM _).mono ?_
        rintro e w1 ⟨rfl, k1⟩
        have gb := k1.heap HB.out id
        obtain ⟨a0, b0⟩ := row_cell (xs := [_, _]) gb 0 _ rfl
        have K := hbox.then k1
        obtain ⟨c1, p1, HKN⟩ := HK.out _ K
        clear gb HB HK k1 HKN
        go_wp2
        go_ret2
        exact ⟨rfl, K⟩

/-- A text more. -/
theorem RorcAt.put {J : Nat → Prop} {w w5 : World} {p q b : Nat} {tv dv pv v5 : Value} {vs : List Value} {I F : Nat → Prop} {S : OS} (h : RorcAt J w p q b tv dv pv vs I F S) {zs : List Int} (G : Grew 5 w w5 pv v5 S.pl.length (S.pl.map (Value.int .u8)) (zs.map (Value.int .u8))) :
    RorcAt J (w5.setCell ⟨p, 4, none⟩ v5) p q b tv dv v5 vs I (fun k => F k ∨ (w.heap.size ≤ k ∧ k < w5.heap.size)) { S with pl := S.pl ++ zs } ∧ Chg F w (w5.setCell ⟨p, 4, none⟩ v5) ∧ w5.cell? ⟨p, 4, none⟩ = some pv ∧ w5.frozen? ⟨p, 4, none⟩ = false ∧ p < w5.heap.size := by
  have hpl := h.lt p h.fp
  have C5 : Chg (fun k => pv.ownBlock = some k) w w5 := (Chg.refl _ w).grown G.grown (fun k hk => .inl hk)
  have C6 : Chg (fun k => pv.ownBlock = some k ∨ k = p) w (w5.setCell ⟨p, 4, none⟩ v5) := (C5.mono (fun k hk => .inl (.inl hk))).setCell _ _ (.inl (.inr rfl))
  have np : ¬ pv.ownBlock = some p := fun e => (h.vI p e).2.1 rfl
  have g5 := C5.heap h.blk np
  have s5 := C5.size
  have hb : (w5.setCell ⟨p, 4, none⟩ v5).heap[p]? = some (.cells #[.pointer (some ⟨q, 0, none⟩), .int .i64 S.L, dv, .map (some b), v5] 64 (0, 0)) := by
    simp [World.setCell, Array.getElem?_modify, g5]
  have vnew : ∀ k, v5.ownBlock = some k → k ≠ p := by
    intro k hk
    rcases G.place k hk with e | e
    · exact (h.vI k e).2.1
    · omega
  have sz : (w5.setCell ⟨p, 4, none⟩ v5).heap.size = w5.heap.size := by simp
  refine ⟨⟨hb, ?_, ?_, ?_, ?_, ?_, h.pI, h.qI, h.bI, ?_, ?_, h.pq, fun k hk => .inl (h.fI k hk), .inl h.fp, .inl h.fq, .inl h.fb, ?_, (fun k hk => by have := h.jl k hk; omega), ?_⟩, ?_, ?_, ?_, by omega⟩
  · exact h.tpe.chg C6 (fun e => by rcases e with e | e; exact (h.vI _ e).2.2.1 rfl; exact h.pq e.symm) (fun k hk e => by rcases e with e | e; exact h.fj k hk (h.vI _ e).2.2.2.2; exact h.fj k hk (by rw [e]; exact h.fp))
  · exact h.tab.chg C6 (fun e => by rcases e with e | e; exact (h.vI _ e).2.2.2.1 rfl; exact h.tab.ne h.blk e)
  · exact C6.owns h.row (fun k hk e => by rcases e with e | e; exact (h.dI k hk).2.2.2.2.2 e; exact (h.dI k hk).2.1 e)
  · intro i x hx
    exact (h.pads i x hx).chg C6 (fun k hk e => by rcases e with e | e; exact (h.vI _ e).1 hk; exact h.pI (by rw [← e]; exact hk))
  · have ho := G.own
    rw [← List.map_append, List.length_map, ← List.length_append] at ho
    exact ((Chg.refl (fun k => k = p) w5).setCell _ _ (.inl rfl)).owns ho vnew
  · intro k hk
    rcases G.place k hk with e | e
    · obtain ⟨v1, v2, v3, v4, v6⟩ := h.vI k e
      exact ⟨v1, v2, v3, v4, .inl v6⟩
    · have hlt : k < w5.heap.size := (G.own.lt k hk).2
      have hq := h.lt q h.fq
      have hb := h.lt b h.fb
      exact ⟨fun e2 => by have := h.lt k (h.fI k e2); omega, by omega, by omega, by omega, .inr ⟨e, hlt⟩⟩
  · intro k hk
    obtain ⟨z1, z2, z3, z4, z5, z6⟩ := h.dI k hk
    refine ⟨z1, z2, z3, z4, .inl z5, fun e => ?_⟩
    rcases G.place k e with e | e
    · exact z6 e
    · have := h.lt k z5
      omega
  · intro k hk e
    rcases e with e | e
    · exact h.fj k hk e
    · have := h.jl k hk
      omega
  · intro k hk
    rcases hk with hk | hk
    · have := h.lt k hk
      omega
    · omega
  · exact C6.mono (fun k hk => .inl (by rcases hk with e | e; exact (h.vI k e).2.2.2.2; rw [e]; exact h.fp))
  · exact C5.cell h.cells.2.2.2.2.1 np
  · exact (World.frozen?_of_block (C5.block p hpl np)).trans h.cells.2.2.2.2.2.2

/-- An append of values to a row of the call's own: it runs, and leaves what Grew says. -/
theorem run_append_grew {P : Program} (w : World) (t ty e : TypeId) (i : TypeInfo) (z : Value) (bytes : Nat) (ht : P.underlying t = some (.slice e)) (hi : P.info? e = some i) (hz : i.zero = some z) (hsize : i.size = 1) (hby : i.bytes = bytes) (hzs : z.cells.size = 1)
    (v : Value) (n : Nat) (xs : List Value) (h0 : 0 < n) (hown : w.ownsRow 0 e 1 v n xs) (J : Nat → Prop) (u : Value) (news : List Value) (hne : news ≠ []) (hu : Lies J w u news) (h1 : ∀ u ∈ news, u.oneCell' = true) (h63 : n + news.length ≤ maxLen) (hbytes : (n + news.length) * bytes ≤ 140737488355328) :
    ∃ v' w', (Builtin.append_ #[t, t] ty #[v, u]).run P w = .ok v' w' ∧ Grew e w w' v v' n xs news := by
  rcases hu with ⟨_, h2⟩ | ⟨ad, c, rfl, hJ, hc⟩
  · exact absurd h2 hne
  have hown0 := hown
  rcases hown.2 with ⟨_, h2⟩ | ⟨g, cap, cur, rfl, hb, hgg, hcc, hm, hcs, htk⟩
  · omega
  by_cases hr : n + news.length ≤ cap
  · obtain ⟨w', hrun, r1, r2⟩ := run_append_fits (P := P) w 0 t ty e i 1 ht hi hsize g n cap xs hown0 ad news.length c news (by simp) hc h1 hr
    exact ⟨_, w', hrun, r1, r2, fun k hk => .inl hk, fun u k ys hu hy => owns_front hown0 r1 r2 u k ys hu (fun b hb hb2 => by rw [Nat.mul_one]; exact hy b hb hb2)⟩
  · have hcell : ∀ j u, xs[j]? = some u → w.cell? ((⟨g, 0, none⟩ : Addr).add j) = some u := hown0.cells rfl
    obtain ⟨v', w', hrun, r1, r2⟩ := run_append_arg_grows (P := P) w t ty e i z 1 bytes ht hi hz hsize hby hzs (by decide) ⟨g, 0, none⟩ n cap xs hown0.1 hcell ad news.length c news (by simp) hc (by omega) h63 hbytes
    exact ⟨v', w', hrun, owns_base r1 (Nat.zero_le _), ⟨r2.os, r2.tape, r2.output, r2.size, fun k hk _ => r2.block k hk (by simp)⟩, fun k hk => .inr (r1.lt k hk).1, fun u k ys hu hy => hu.kept r2 (by cases hh : u.ownBlock <;> simp)⟩

set_option maxHeartbeats 1000000 in
theorem rbytes_new (w : World) (g c : Int) (hm : may g c = true) : Calls Try.prog 34 #[nv g c] w fun e w' => ∃ v, e = .returned v ∧ New w (nbs g c) v w' := by
  have HM := fun w => rmay_any w g c
  obtain ⟨zs, hzs⟩ : ∃ zs, nbs g c = zs := ⟨_, rfl⟩
  have HZ : Hid (nbs g c = zs) := hzs
  rw [hzs]
  clear hzs
  have HT := puts_two g c hm
  have hz : enc g 6 ++ enc c 6 = zs := by
    rw [← HZ.out, nbs, if_pos hm]
  rw [hz] at HT
  simp only [hm] at HM
  clear hz
  go_enter Try.func34, Try.ntmps34
  go_wp2_with fail
  refine (HM _).mono ?_
  rintro e w1 ⟨rfl, k1⟩
  have g0 : w1.heap[w.heap.size]? = some (.cells #[.int .i64 g, .int .i64 c] 46 (0, 0)) := k1.heap (heap_alloc_new _ _) id
  obtain ⟨a0, b0⟩ := row_cell (xs := [_, _]) g0 0 _ rfl
  obtain ⟨a1, b1⟩ := row_cell (xs := [_, _]) g0 1 _ rfl
  have K : Chg no w w1 := ((Chg.refl no w).alloc _).then k1
  have HN := rnums_any (w := w1.alloc (.cells #[.int .i64 g, .int .i64 c] 3)) (G := no) (v := .slice none 0 0) (bs := []) ⟨World.ownsRow_nil _ _ _ _, fun k hk => by simp [Value.ownBlock] at hk, fun k hk => hk.elim⟩ (by simp) 6 _ [g, c] (lies_new [.int .i64 g, .int .i64 c] 3) (fun _ _ h => h) (by simp)
  rw [HT] at HN
  clear k1 g0 HM HT
  go_wp2_with fail
  refine HN.mono ?_
  rintro e w2 ⟨v2, rfl, q1, q2⟩
  have K2 : Chg no w w2 := (K.alloc _).then q2
  have HL : Hid (New w zs v2 w2) := by
    refine ⟨⟨q1.own.1, ?_⟩, K2⟩
    have s1 := (K.alloc (.cells #[.int .i64 g, .int .i64 c] 3)).size
    rcases q1.own.2 with hh | ⟨gg, cap, cur, hv, hb, rest⟩
    · exact .inl hh
    · refine .inr ⟨gg, cap, cur, hv, ?_, rest⟩
      rcases q1.vg gg (by rw [hv]; rfl) with e | e
      · exact e.elim
      · omega
  obtain ⟨xa, xc, rfl⟩ := HL.out.shape
  clear HN q1 q2
  go_wp2
  go_ret
  exact ⟨_, rfl, HL.out⟩

end Go.Proofs.Ytmchjnmmeankgaa.st
