/- Contracts of Pad at every nonce, of Seal where it errs; a text more. -/
import Derived.Test.YtmchjnmmeankgaaPad
import Derived.Test.YtmchjnmmeankgaaPar
namespace Go.Proofs.Ytmchjnmmeankgaa.st
open Go.ChangeShapes Go.WideShapes Go.ChangeAt Go.RowKit Go.Proofs.Ytmchjnmmeankgaa.hp Go.Proofs.Ytmchjnmmeankgaa.dg
set_option linter.unusedVariables false

theorem Orc.lt {w : World} {p q : Nat} {F : Nat → Prop} {S : OS} (h : Orc p q S w F) : ∀ k, F k → k < w.heap.size := by
  obtain ⟨b, tv, pv, kv, I, h⟩ := h
  exact h.lt

theorem Orc.plt {w : World} {p q : Nat} {F : Nat → Prop} {S : OS} (h : Orc p q S w F) : p < w.heap.size := by
  obtain ⟨b, tv, pv, kv, I, h⟩ := h
  exact h.lt p h.fp

theorem pad_any {w : World} {p q : Nat} {F : Nat → Prop} {S : OS} (h : Orc p q S w F) (hok : S.Ok) (g c : Int) (hn : Fits (g, c)) :
    Calls Try.prog 19 #[.pointer (some ⟨p, 0, none⟩), nv g c] w fun e w' => ∃ v, e = .returned v ∧ Fine (Orc p q (S.ask (g, c))) w F v (((S.ask (g, c)).padOf (g, c)).map (Value.int .u8)) w' := by
  by_cases hk : (g, c) ∈ S.ks
  · rw [OS.ask_in hk]
    refine (pad_old h hok g c hn hk).mono ?_
    rintro e w' ⟨v, rfl, N⟩
    exact ⟨v, rfl, fine_new (w1 := w) (h.chg N.2 (fun _ _ h => h)) (fun k hk => ⟨.inl hk, h.lt k hk⟩) (Chg.refl F w) N⟩
  · exact pad_new h hok g c hn hk

/-- Why a text is not sealed: 0: it is. -/
def OS.why (S : OS) (g c : Int) (n : Nat) : Int := if may g c = false ∨ g = 0 then 1 else if n ≠ S.L then 2 else if S.knows (g, c) then 10 else 0

theorem knows_false {S : OS} {n : Int × Int} (h : S.knows n = false) : n ∉ S.ks := of_decide_eq_false h

set_option maxRecDepth 100000 in
set_option maxHeartbeats 2000000 in
theorem seal_err {w : World} {p q : Nat} {F J : Nat → Prop} {S : OS} (h : Orc p q S w F) (g c : Int) (hn : Fits (g, c)) (t : Value) (zs : List Int) (ht : Lies J w t (zs.map (Value.int .u8))) (hz : zs.length ≤ 100000000) (hL : S.L ≤ 4000) (hw : S.why g c zs.length ≠ 0) :
    Calls Try.prog 13 #[.pointer (some ⟨p, 0, none⟩), nv g c, t] w fun e w' => e = .returned (.tuple #[.slice none 0 0, .int .i64 (S.why g c zs.length)]) ∧ Chg no w w' := by
  have HM := fun w => may_any w g c
  have hbox : Chg no w (w.alloc (.cells #[.int .i64 g, .int .i64 c] 40)) := (Chg.refl no w).alloc _
  have HB : Hid ((w.alloc (.cells #[.int .i64 g, .int .i64 c] 40)).heap[w.heap.size]? = some (.cells #[.int .i64 g, .int .i64 c] 40 (0, 0))) := heap_alloc_new _ _
  have HK : Hid (∀ w1, Chg no w w1 → w1.cell? ⟨p, 1, none⟩ = some (.int .i64 S.L) ∧ p < w1.heap.size ∧ Calls Try.prog 21 #[.pointer (some ⟨p, 0, none⟩), nv g c] w1 fun e w' => e = .returned (.bool (S.knows (g, c))) ∧ Chg no w1 w') := by
    intro w1 k
    have h1 := h.chg k (fun _ _ h => h)
    refine ⟨?_, h1.plt, known_any h1 g c hn⟩
    obtain ⟨b, tv, pv, kv, I, h1⟩ := h1
    exact h1.cells.2.1
  obtain ⟨x, cx, rfl, _⟩ := ht.slice
  simp only [List.length_map]
  obtain ⟨n, hnl⟩ : ∃ n, zs.length = n := ⟨_, rfl⟩
  rw [hnl] at hw hz ⊢
  have hpl := h.plt
  clear h ht hnl
  have hni : (n : Int) ≤ 100000000 := by omega
  have hLi : (S.L : Int) ≤ 4000 := by omega
  cases hm : may g c with
  | false =>
    have e1 : S.why g c n = 1 := by unfold OS.why; rw [if_pos (.inl hm)]
    rw [e1]
    simp only [hm] at HM
    clear hw e1
    go_enter Try.func13, Try.ntmps13
    go_wp2_with fail
    refine (HM _).mono ?_
    rintro e w1 ⟨rfl, k1⟩
    go_wp2
    go_ret2
    exact ⟨rfl, hbox.then k1⟩
  | true =>
    simp only [hm] at HM
    by_cases hg : g = 0
    · have e1 : S.why g c n = 1 := by unfold OS.why; rw [if_pos (.inr hg)]
      rw [e1]
      subst hg
      clear hw e1
      go_enter Try.func13, Try.ntmps13
      go_wp2_with fail
      refine (HM _).mono ?_
      rintro e w1 ⟨rfl, k1⟩
      have gb := k1.heap HB.out id
      obtain ⟨a0, b0⟩ := row_cell (xs := [_, _]) gb 0 _ rfl
      have K := hbox.then k1
      clear gb HB
      go_wp2
      go_ret2
      exact ⟨rfl, K⟩
    · have hgb : (g == 0) = false := by simpa using hg
      by_cases hnL : n = S.L
      · have hkn : S.knows (g, c) = true := by
          unfold OS.why at hw
          rw [if_neg (by simp [hm, hg]), if_neg (by simp [hnL])] at hw
          cases hk : S.knows (g, c) with
          | true => rfl
          | false => simp [hk] at hw
        have e1 : S.why g c n = 10 := by unfold OS.why; rw [if_neg (by simp [hm, hg]), if_neg (by simp [hnL]), if_pos hkn]
        rw [e1]
        simp only [hkn] at HK
        clear hw e1 hkn
        subst hnL
        go_enter Try.func13, Try.ntmps13
        go_wp2_with fail
        refine (HM _).mono ?_
        rintro e w1 ⟨rfl, k1⟩
        have gb := k1.heap HB.out id
        obtain ⟨a0, b0⟩ := row_cell (xs := [_, _]) gb 0 _ rfl
        obtain ⟨a1, b1⟩ := row_cell (xs := [_, _]) gb 1 _ rfl
        have K := hbox.then k1
        obtain ⟨c1, p1, HKN⟩ := HK.out _ K
        clear gb HB HK k1
        go_wp2_with fail
        refine HKN.mono ?_
        rintro e w2 ⟨rfl, k2⟩
        go_wp2
        go_ret2
        exact ⟨rfl, K.then k2⟩
      · have e1 : S.why g c n = 2 := by unfold OS.why; rw [if_neg (by simp [hm, hg]), if_pos hnL]
        rw [e1]
        have hne : (n == S.L) = false := by simpa using hnL
        have hne2 : ((n : Int) == (S.L : Int)) = false := by simp; omega
        clear hw e1
        go_enter Try.func13, Try.ntmps13
        go_wp2_with fail
        refine (HM _).mono ?_
        rintro e w1 ⟨rfl, k1⟩
        have gb := k1.heap HB.out id
        obtain ⟨a0, b0⟩ := row_cell (xs := [_, _]) gb 0 _ rfl
        have K := hbox.then k1
        obtain ⟨c1, p1, HKN⟩ := HK.out _ K
        clear gb HB HK k1 HKN
        go_wp2
        go_ret2
        exact ⟨rfl, K⟩

/-- A text more. -/
theorem OrcAt.put {w w5 : World} {p q b : Nat} {tv pv v5 : Value} {kv : List ((Int × Int) × Value)} {I F : Nat → Prop} {S : OS} (h : OrcAt w p q b tv pv kv I F S) {zs : List Int} (G : Grew 5 w w5 pv v5 S.pl.length (S.pl.map (Value.int .u8)) (zs.map (Value.int .u8))) :
    OrcAt (w5.setCell ⟨p, 3, none⟩ v5) p q b tv v5 kv I (fun k => F k ∨ (w.heap.size ≤ k ∧ k < w5.heap.size)) { S with pl := S.pl ++ zs } ∧ Chg F w (w5.setCell ⟨p, 3, none⟩ v5) ∧ w5.cell? ⟨p, 3, none⟩ = some pv ∧ w5.frozen? ⟨p, 3, none⟩ = false ∧ p < w5.heap.size := by
  have hpl := h.lt p h.fp
  have C5 : Chg (fun k => pv.ownBlock = some k) w w5 := (Chg.refl _ w).grown G.grown (fun k hk => .inl hk)
  have C6 : Chg (fun k => pv.ownBlock = some k ∨ k = p) w (w5.setCell ⟨p, 3, none⟩ v5) := (C5.mono (fun k hk => .inl (.inl hk))).setCell _ _ (.inl (.inr rfl))
  have np : ¬ pv.ownBlock = some p := fun e => (h.vI p e).2.1 rfl
  have g5 := C5.heap h.blk np
  have s5 := C5.size
  have hb : (w5.setCell ⟨p, 3, none⟩ v5).heap[p]? = some (.cells #[.pointer (some ⟨q, 0, none⟩), .int .i64 S.L, .map (some b), v5] 57 (0, 0)) := by
    simp [World.setCell, Array.getElem?_modify, g5]
  have vnew : ∀ k, v5.ownBlock = some k → k ≠ p := by
    intro k hk
    rcases G.place k hk with e | e
    · exact (h.vI k e).2.1
    · omega
  refine ⟨⟨hb, ?_, ?_, h.keys, ?_, ?_, h.tI, h.pI, h.qI, h.bI, ?_, h.pq, fun k hk => .inl (h.fI k hk), .inl h.fp, .inl h.fq, .inl h.fb, ?_⟩, ?_, ?_, ?_, by omega⟩
  · exact h.tpe.chg C6 (fun e => by rcases e with e | e; exact (h.vI _ e).2.2.1 rfl; exact h.pq e.symm) (fun k hk e => by rcases e with e | e; exact (h.vI _ e).1 (h.tI k hk); exact h.pI (by rw [← e]; exact h.tI k hk))
  · exact h.tab.chg C6 (fun e => by rcases e with e | e; exact (h.vI _ e).2.2.2.1 rfl; exact h.tab.ne h.blk e)
  · intro i x hx
    exact (h.pads i x hx).chg C6 (fun k hk e => by rcases e with e | e; exact (h.vI _ e).1 hk; exact h.pI (by rw [← e]; exact hk))
  · have ho := G.own
    rw [← List.map_append, List.length_map, ← List.length_append] at ho
    exact ((Chg.refl (fun k => k = p) w5).setCell _ _ (.inl rfl)).owns ho vnew
  · intro k hk
    rcases G.place k hk with e | e
    · obtain ⟨v1, v2, v3, v4, v6⟩ := h.vI k e
      exact ⟨v1, v2, v3, v4, .inl v6⟩
    · have hlt : k < w5.heap.size := (G.own.lt k hk).2
      have hq := h.lt q h.fq
      have hb := h.lt b h.fb
      exact ⟨fun e2 => by have := h.lt k (h.fI k e2); omega, by omega, by omega, by omega, .inr ⟨e, hlt⟩⟩
  · intro k hk
    have : (w5.setCell ⟨p, 3, none⟩ v5).heap.size = w5.heap.size := by simp
    rcases hk with hk | hk
    · have := h.lt k hk
      omega
    · omega
  · exact C6.mono (fun k hk => .inl (by rcases hk with e | e; exact (h.vI k e).2.2.2.2; rw [e]; exact h.fp))
  · exact C5.cell h.cells.2.2.2.1 np
  · exact (World.frozen?_of_block (C5.block p hpl np)).trans h.cells.2.2.2.2

end Go.Proofs.Ytmchjnmmeankgaa.st
