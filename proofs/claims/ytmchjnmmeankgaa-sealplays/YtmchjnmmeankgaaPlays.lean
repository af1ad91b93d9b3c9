/-
  Proved: for all bytes, every length and all operations the law SealPlays returns true; no condition.
-/
import Derived.Test.YtmchjnmmeankgaaPlo
import Derived.Deep.CutBlock
namespace Go.Proofs.Ytmchjnmmeankgaa.sealPlays
open Go.ChangeShapes Go.WideShapes Go.ChangeAt Go.RowKit Go.Proofs.Ytmchjnmmeankgaa.hp Go.Proofs.Ytmchjnmmeankgaa.dg Go.Proofs.Ytmchjnmmeankgaa.st
set_option linter.unusedVariables false

/-- Both oracles alike, behind i operations. -/
def Alike (w : World) (p q p' q' : Nat) (z0 : List Int) (L i : Nat) (mv : Value) (wr : World) : Prop :=
  ∃ S vs cs F G H N, PlayIn w p q p' q' S S mv vs cs F G H N wr ∧ S.At z0 L i ∧ cs.length ≤ i ∧ ∀ j, j < cs.length → (cs.getD j []).length ≤ 200

/-- The same, with a block that stays. -/
def AlikeB (w : World) (p q p' q' : Nat) (z0 : List Int) (L i B : Nat) (o : Obj) (mv : Value) (wr : World) : Prop :=
  ∃ S vs cs F G H N, PlayIn w p q p' q' S S mv vs cs F G H N wr ∧ S.At z0 L i ∧ cs.length ≤ i ∧ (∀ j, j < cs.length → (cs.getD j []).length ≤ 200) ∧ N B ∧ wr.heap[B]? = some o

theorem AlikeB.same {w wr w' : World} {p q p' q' : Nat} {z0 : List Int} {L i B : Nat} {o : Obj} {mv : Value} (h : AlikeB w p q p' q' z0 L i B o mv wr) (k : Chg no wr w') : AlikeB w p q p' q' z0 L i B o mv w' := by
  obtain ⟨S, vs, cs, F, G, H, N, h1, h2, h3, h4, h5, h6⟩ := h
  obtain ⟨h7, h8⟩ := h1.same k
  exact ⟨S, vs, cs, F, G, H, N, h7, h2, h3, h4, h5, h8.heap h5 h6⟩

theorem AlikeB.more {w wr : World} {p q p' q' : Nat} {z0 : List Int} {L i B : Nat} {o : Obj} {mv : Value} (h : AlikeB w p q p' q' z0 L i B o mv wr) : AlikeB w p q p' q' z0 L (i + 1) B o mv wr := by
  obtain ⟨S, vs, cs, F, G, H, N, h1, h2, h3, h4, h5, h6⟩ := h
  exact ⟨S, vs, cs, F, G, H, N, h1, h2.more, by omega, h4, h5, h6⟩

theorem AlikeB.drop {w wr : World} {p q p' q' : Nat} {z0 : List Int} {L i B : Nat} {o : Obj} {mv : Value} (h : AlikeB w p q p' q' z0 L i B o mv wr) : Alike w p q p' q' z0 L i mv wr := by
  obtain ⟨S, vs, cs, F, G, H, N, h1, h2, h3, h4, h5, h6⟩ := h
  exact ⟨S, vs, cs, F, G, H, N, h1, h2, h3, h4⟩

/-- A new block that stays. -/
theorem Alike.box {w wr : World} {p q p' q' : Nat} {z0 : List Int} {L i : Nat} {mv : Value} (h : Alike w p q p' q' z0 L i mv wr) (xs : Array Value) (t : TypeId) : AlikeB w p q p' q' z0 L i wr.heap.size (.cells xs t (0, 0)) mv (wr.alloc (.cells xs t)) := by
  obtain ⟨S, vs, cs, F, G, H, N, h1, h2, h3, h4⟩ := h
  obtain ⟨h5, h6⟩ := h1.same ((Chg.refl no wr).alloc (.cells xs t))
  obtain ⟨h7, h8⟩ := h5.more (M := fun k => k = wr.heap.size) (fun k hk => by
    subst hk
    exact ⟨fun e => by have := (h1.fg _ e).2.2.2.2; omega, fun e => by have := (h1.gh _ e).2.2.2; omega, fun e => by have := (h1.hn _ e).2.2; omega, by simp⟩)
  exact ⟨S, vs, cs, F, G, H, _, h7, h2, h3, h4, .inr rfl, heap_alloc_new _ _⟩

theorem Alike.chg {w wr : World} {p q p' q' : Nat} {z0 : List Int} {L i : Nat} {mv : Value} (h : Alike w p q p' q' z0 L i mv wr) : Chg no w wr := by
  obtain ⟨S, vs, cs, F, G, H, N, h1, h2, h3, h4⟩ := h
  exact h1.chg

theorem Alike.shape {w wr : World} {p q p' q' : Nat} {z0 : List Int} {L i : Nat} {mv : Value} (h : Alike w p q p' q' z0 L i mv wr) : ∃ a n c, mv = .slice a n c ∧ n ≤ i := by
  obtain ⟨S, vs, cs, F, G, H, N, h1, h2, h3, h4⟩ := h
  obtain ⟨a, c, e⟩ := owns_shape h1.row
  exact ⟨a, _, c, e, h3⟩

theorem cellRes_len (S : OS) (g c : Int) (zs : List Int) (hL : S.L ≤ 100) : (S.cellRes (g, c) zs).length ≤ 200 := by
  unfold OS.cellRes
  by_cases hw : S.why (g, c).1 (g, c).2 zs.length = 0
  · rw [if_pos hw, (cell_parts S g c zs).2.2]
    obtain ⟨_, _, hl, _⟩ := why_zero hw
    omega
  · rw [if_neg hw]
    simp

theorem cellRes_bytes (S : OS) (g c : Int) (zs : List Int) (hb : Bytes S.zs) (hz : Bytes zs) : Bytes (S.cellRes (g, c) zs) := by
  unfold OS.cellRes
  by_cases hw : S.why (g, c).1 (g, c).2 zs.length = 0
  · rw [if_pos hw]
    exact cell_bytes hb g c hz
  · rw [if_neg hw]
    intro x hx
    simp at hx

/-- Between the two calls of an operation: the program's oracle is ahead. -/
def Mid (w : World) (p q p' q' : Nat) (z0 : List Int) (L i B : Nat) (o : Obj) (mv : Value) (S1 S2 : OS) (cs : List (List Int)) (u : Value) (xs : List Int) (wr : World) : Prop :=
  ∃ vs F G H N, PlayIn w p q p' q' S1 S2 mv vs cs F G H N wr ∧ cs.length ≤ i ∧ (∀ j, j < cs.length → (cs.getD j []).length ≤ 200) ∧ N B ∧ wr.heap[B]? = some o ∧ Lies N wr u (xs.map (Value.int .u8))

/-- Seal on both: the same answer. -/
theorem play_seal {w wr : World} {p q p' q' : Nat} {z0 : List Int} {L i B : Nat} {o : Obj} {mv : Value} (h : AlikeB w p q p' q' z0 L i B o mv wr) (hz0 : Bytes z0) (l1 : 1 ≤ L) (l2 : L ≤ 100) (hi : i ≤ 100) (g c : Int) (hn : Fits (g, c)) (t : Value) (zs : List Int) (ht : Lies (Old w) w t (zs.map (Value.int .u8))) (hz : zs.length ≤ 20000) (hb : Bytes zs) :
    ∃ W cz cs S, S.At z0 L i ∧ cz.length ≤ 200 ∧ Bytes cz ∧ cs.length ≤ i ∧
      (Calls Try.prog 13 #[.pointer (some ⟨p, 0, none⟩), nv g c, t] wr fun e w' => ∃ v, e = .returned (.tuple #[v, .int .i64 W]) ∧ Mid w p q p' q' z0 L i B o mv (S.sealed (g, c) zs) S cs v cz w') ∧
      ∀ v w', Mid w p q p' q' z0 L i B o mv (S.sealed (g, c) zs) S cs v cz w' → Calls Try.prog 14 #[.pointer (some ⟨p', 0, none⟩), nv g c, t] w' fun e w'' => ∃ v2, e = .returned (.tuple #[v2, .int .i64 W]) ∧ Capd v2 ∧ ∃ vs F G H N, PlayIn w p q p' q' (S.sealed (g, c) zs) (S.sealed (g, c) zs) mv vs cs F G H N w'' ∧ (∀ j, j < cs.length → (cs.getD j []).length ≤ 200) ∧ N B ∧ w''.heap[B]? = some o ∧ Lies N w'' v (cz.map (Value.int .u8)) ∧ Lies N w'' v2 (cz.map (Value.int .u8)) := by
  obtain ⟨S, vs, cs, F, G, H, N, h1, h2, h3, h4, h5, h6⟩ := h
  obtain ⟨hok, hp9⟩ := h2.ok l1 l2 hi
  refine ⟨S.why g c zs.length, S.cellRes (g, c) zs, cs, S, h2, cellRes_len S g c zs (by have := h2.L; omega), cellRes_bytes S g c zs (by rw [h2.zs]; exact hz0) hb, h3, ?_, ?_⟩
  · have hl := (ht.chg h1.chg (fun _ _ h => h)).mono h1.nold
    refine (h1.seal1 hok hp9 g c hn t zs hl (by omega)).mono ?_
    rintro e w' ⟨v, F', N', rfl, k1, k2, k3⟩
    exact ⟨v, rfl, vs, F', G, H, N', k1, h3, h4, (k2 B h5).1, k2.heap h5 h6, k3⟩
  · rintro v w' ⟨vs', F', G', H', N', k1, k2, k3, k4, k5, k6⟩
    have hl := (ht.chg k1.chg (fun _ _ h => h)).mono k1.nold
    refine (k1.seal2 hok hp9 g c hn t zs hl (by omega)).mono ?_
    rintro e w'' ⟨v2, G2, N2, rfl, m1, m2, m3, m4⟩
    exact ⟨v2, rfl, m4, vs', F', G2, H', N2, m1, k3, (m2 B k4).1, m2.heap k4 k5, m2.lies k6, m3⟩

/-- Open on both: the same answer. -/
theorem play_open {w wr : World} {p q p' q' : Nat} {z0 : List Int} {L i B : Nat} {o : Obj} {mv : Value} (h : AlikeB w p q p' q' z0 L i B o mv wr) (l1 : 1 ≤ L) (l2 : L ≤ 100) (hi : i ≤ 100) (x : Option Addr) (cx : Nat) (zs : List Int) (hz : zs.length ≤ 20000) (hb : Bytes zs) (hc1 : zs.length ≤ cx) (hc2 : cx ≤ maxLen)
    (ht : Lies (Old w) w (.slice x zs.length cx) (zs.map (Value.int .u8))) :
    ∃ W tx cs S, S.At z0 L i ∧
      (Calls Try.prog 17 #[.pointer (some ⟨p, 0, none⟩), .slice x zs.length cx] wr fun e w' => ∃ v, e = .returned (.tuple #[v, .int .i64 W]) ∧ Mid w p q p' q' z0 L i B o mv S S cs v tx w') ∧
      ∀ v w', Mid w p q p' q' z0 L i B o mv S S cs v tx w' → Calls Try.prog 18 #[.pointer (some ⟨p', 0, none⟩), .slice x zs.length cx] w' fun e w'' => ∃ v2, e = .returned (.tuple #[v2, .int .i64 W]) ∧ AlikeB w p q p' q' z0 L i B o mv w'' ∧ Lies (fun _ => True) w'' v (tx.map (Value.int .u8)) ∧ Lies (fun _ => True) w'' v2 (tx.map (Value.int .u8)) := by
  obtain ⟨S, vs, cs, F, G, H, N, h1, h2, h3, h4, h5, h6⟩ := h
  obtain ⟨hok, hp9⟩ := h2.ok l1 l2 hi
  refine ⟨S.code zs, S.text zs, cs, S, h2, ?_, ?_⟩
  · have hl := (ht.chg h1.chg (fun _ _ h => h)).mono h1.nold
    refine (h1.open1 hok x cx zs hl hb (by omega) hc1 hc2).mono ?_
    rintro e w' ⟨v, F', N', rfl, k1, k2, k3⟩
    exact ⟨v, rfl, vs, F', G, H, N', k1, h3, h4, (k2 B h5).1, k2.heap h5 h6, k3⟩
  · rintro v w' ⟨vs', F', G', H', N', k1, k2, k3, k4, k5, k6⟩
    have hl := (ht.chg k1.chg (fun _ _ h => h)).mono k1.nold
    refine (k1.open2 hok x cx zs hl hb (by omega) hc1 hc2).mono ?_
    rintro e w'' ⟨v2, G2, N2, rfl, m1, m2, m3⟩
    exact ⟨v2, rfl, ⟨S, vs', cs, F', G2, H', N2, m1, h2, h3, k3, (m2 B k4).1, m2.heap k4 k5⟩, (m2.lies k6).mono (fun _ _ => trivial), m3.mono (fun _ _ => trivial)⟩

/-- Open of the K-th cell on both. -/
theorem play_made {w wr : World} {p q p' q' : Nat} {z0 : List Int} {L i B : Nat} {o : Obj} {a : Option Addr} {n cm : Nat} (h : AlikeB w p q p' q' z0 L i B o (.slice a n cm) wr) (l1 : 1 ≤ L) (l2 : L ≤ 100) (hi : i ≤ 100) (K : Nat) (hK : K < n) :
    ∃ W tl gA x l cx, a = some ⟨gA, 0, none⟩ ∧ wr.cell? ⟨gA, K, none⟩ = some (.slice x l cx) ∧
      Calls Try.prog 17 #[.pointer (some ⟨p, 0, none⟩), .slice x l cx] wr fun e w' => ∃ xa ca, e = .returned (.tuple #[.slice xa tl ca, .int .i64 W]) ∧ w'.heap[B]? = some o ∧ w'.cell? ⟨gA, K, none⟩ = some (.slice x l cx) ∧
        Calls Try.prog 18 #[.pointer (some ⟨p', 0, none⟩), .slice x l cx] w' fun e w'' => ∃ xb cb, ∃ tx : List Int, e = .returned (.tuple #[.slice xb tl cb, .int .i64 W]) ∧ AlikeB w p q p' q' z0 L i B o (.slice a n cm) w'' ∧ Lies (fun _ => True) w'' (.slice xa tl ca) (tx.map (Value.int .u8)) ∧ Lies (fun _ => True) w'' (.slice xb tl cb) (tx.map (Value.int .u8)) := by
  obtain ⟨S, vs, cs, F, G, H, N, h1, h2, h3, h4, h5, h6⟩ := h
  obtain ⟨hok, hp9⟩ := h2.ok l1 l2 hi
  have hrow := h1.row
  obtain ⟨a', c', e'⟩ := owns_shape hrow
  cases e'
  obtain ⟨e1, e2, e3⟩ := h1.each K hK
  have hcl := h4 K hK
  obtain ⟨x, cx, hx, _⟩ := e1.slice
  rw [List.length_map] at hx
  rw [hx] at e1 e2
  obtain ⟨ax, lx, ccx, hc0, hc1, hc2⟩ := e2
  cases hc0
  have hvl : vs.length = cs.length := by have := hrow.1; omega
  have hg : vs[K]? = some (vs.getD K undef) := by rw [List.getD_eq_getElem?_getD, List.getElem?_eq_getElem (by omega)]; rfl
  rcases hrow.2 with ⟨_, h0⟩ | ⟨gA, cap, cur, hv, _⟩
  · omega
  cases hv
  have hcell : ∀ w' : World, w'.ownsRow 0 22 1 (.slice (some ⟨gA, 0, none⟩) cs.length cm) cs.length vs → w'.cell? ⟨gA, K, none⟩ = some (.slice x (cs.getD K []).length cx) := by
    intro w' ho
    have := ho.cellAt K (by omega)
    rw [hg, hx] at this
    exact this
  refine ⟨S.code (cs.getD K []), (S.text (cs.getD K [])).length, gA, x, _, cx, rfl, hcell _ hrow, ?_⟩
  refine (h1.open1 hok x cx _ e1 e3 (by omega) hc1 hc2).mono ?_
  rintro e w' ⟨v, F', N', rfl, k1, k2, k3⟩
  obtain ⟨xa, ca, ha, _⟩ := k3.slice
  rw [List.length_map] at ha
  subst ha
  refine ⟨xa, ca, rfl, k2.heap h5 h6, hcell _ k1.row, ?_⟩
  have e4 := (k1.each K hK).1
  rw [hx] at e4
  refine (k1.open2 hok x cx _ e4 e3 (by omega) hc1 hc2).mono ?_
  rintro e w'' ⟨v2, G2, N2, rfl, m1, m2, m3⟩
  obtain ⟨xb, cb, hb, _⟩ := m3.slice
  rw [List.length_map] at hb
  subst hb
  have hB := (k2 B h5).1
  exact ⟨xb, cb, _, rfl, ⟨S, vs, cs, F', G2, H, N2, m1, h2, h3, h4, (m2 B hB).1, m2.heap hB (k2.heap h5 h6)⟩, (m2.lies k3).mono (fun _ _ => trivial), m3.mono (fun _ _ => trivial)⟩

/-- Pad on both: the same answer. -/
theorem play_pad {w wr : World} {p q p' q' : Nat} {z0 : List Int} {L i B : Nat} {o : Obj} {mv : Value} (h : AlikeB w p q p' q' z0 L i B o mv wr) (l1 : 1 ≤ L) (l2 : L ≤ 100) (hi : i ≤ 100) (g c : Int) (hn : Fits (g, c)) :
    ∃ tx cs S, S.At z0 L i ∧ tx.length = L ∧
      (Calls Try.prog 19 #[.pointer (some ⟨p, 0, none⟩), nv g c] wr fun e w' => ∃ v, e = .returned v ∧ Mid w p q p' q' z0 L i B o mv (S.ask (g, c)) S cs v tx w') ∧
      ∀ v w', Mid w p q p' q' z0 L i B o mv (S.ask (g, c)) S cs v tx w' → Calls Try.prog 20 #[.pointer (some ⟨p', 0, none⟩), nv g c] w' fun e w'' => ∃ v2, e = .returned v2 ∧ AlikeB w p q p' q' z0 L (i + 1) B o mv w'' ∧ Lies (fun _ => True) w'' v (tx.map (Value.int .u8)) ∧ Lies (fun _ => True) w'' v2 (tx.map (Value.int .u8)) := by
  obtain ⟨S, vs, cs, F, G, H, N, h1, h2, h3, h4, h5, h6⟩ := h
  obtain ⟨hok, hp9⟩ := h2.ok l1 l2 hi
  refine ⟨(S.ask (g, c)).padOf (g, c), cs, S, h2, by rw [OS.padOf_length]; exact h2.L, ?_, ?_⟩
  · refine (h1.pad1 hok g c hn).mono ?_
    rintro e w' ⟨v, F', N', rfl, k1, k2, k3⟩
    exact ⟨v, rfl, vs, F', G, H, N', k1, h3, h4, (k2 B h5).1, k2.heap h5 h6, k3⟩
  · rintro v w' ⟨vs', F', G', H', N', k1, k2, k3, k4, k5, k6⟩
    refine (k1.pad2 hok g c hn).mono ?_
    rintro e w'' ⟨v2, G2, N2, rfl, m1, m2, m3⟩
    exact ⟨v2, rfl, ⟨S.ask (g, c), vs', cs, F', G2, H', N2, m1, h2.ask (g, c), by omega, k3, (m2 B k4).1, m2.heap k4 k5⟩, (m2.lies k6).mono (fun _ _ => trivial), m3.mono (fun _ _ => trivial)⟩

theorem Mid.same {w wr w' : World} {p q p' q' : Nat} {z0 : List Int} {L i B : Nat} {o : Obj} {mv : Value} {S1 S2 : OS} {cs : List (List Int)} {u : Value} {xs : List Int} (h : Mid w p q p' q' z0 L i B o mv S1 S2 cs u xs wr) (k : Chg no wr w') : Mid w p q p' q' z0 L i B o mv S1 S2 cs u xs w' := by
  obtain ⟨vs', F', G', H', N', k1, k2, k3, k4, k5, k6⟩ := h
  obtain ⟨h7, h8⟩ := k1.same k
  exact ⟨vs', F', G', H', N', h7, k2, k3, k4, h8.heap k4 k5, h8.lies k6⟩

theorem Mid.box {w wr : World} {p q p' q' : Nat} {z0 : List Int} {L i B : Nat} {o : Obj} {mv : Value} {S1 S2 : OS} {cs : List (List Int)} {u : Value} {xs : List Int} (h : Mid w p q p' q' z0 L i B o mv S1 S2 cs u xs wr) : wr.heap[B]? = some o ∧ (∃ a c, u = .slice a xs.length c) := by
  obtain ⟨vs', F', G', H', N', k1, k2, k3, k4, k5, k6⟩ := h
  obtain ⟨a, c, e, _⟩ := k6.slice
  rw [List.length_map] at e
  exact ⟨k5, a, c, e⟩

/-- A cell more among those that were made. -/
theorem made_add {w w6 : World} {p q p' q' : Nat} {z0 : List Int} {L i B : Nat} {o : Obj} {a : Option Addr} {n cm : Nat} {S : OS} {vs : List Value} {cs : List (List Int)} {F G H N : Nat → Prop} (h : PlayIn w p q p' q' S S (.slice a n cm) vs cs F G H N w6) (hS : S.At z0 L (i + 1)) (hcl : cs.length ≤ i) (hl : ∀ j, j < cs.length → (cs.getD j []).length ≤ 200) (hB : N B) (ho : w6.heap[B]? = some o)
    {v : Value} {cz : List Int} (hv : Lies N w6 v (cz.map (Value.int .u8))) (hc : Capd v) (hb : Bytes cz) (hz : cz.length ≤ 200) :
    n ≤ i ∧ (w6.alloc (.cells #[v] 22)).ownsRow 0 22 1 (.slice a n cm) n vs ∧ ∀ v5 w5, w5.ownsRow 0 22 1 v5 (n + 1) (vs ++ [v]) → (w6.alloc (.cells #[v] 22)).grownBy w5 (Value.slice a n cm).ownBlock → (∀ k, v5.ownBlock = some k → (Value.slice a n cm).ownBlock = some k ∨ (w6.alloc (.cells #[v] 22)).heap.size ≤ k) → AlikeB w p q p' q' z0 L (i + 1) B o v5 w5 := by
  obtain ⟨a', c', e'⟩ := owns_shape h.row
  cases e'
  refine ⟨hcl, ((Chg.refl no w6).alloc _).owns h.row (fun _ _ h => h), fun v5 w5 o5 g5 n5 => ?_⟩
  obtain ⟨H', h1, h2⟩ := h.add ((Chg.refl no w6).alloc (.cells #[v] 22)) o5 g5 n5 hv hc hb
  refine ⟨S, _, _, F, G, H', N, h1, hS, by rw [List.length_append]; simp; omega, ?_, (h2 B hB).1, h2.heap hB ho⟩
  intro j hj
  rw [List.length_append] at hj
  by_cases hjl : j < cs.length
  · rw [List.getD_eq_getElem?_getD, List.getElem?_append_left hjl, ← List.getD_eq_getElem?_getD]
    exact hl j hjl
  · have hje : j = cs.length := by simp at hj; omega
    subst hje
    rw [List.getD_eq_getElem?_getD]
    simpa using hz

/-- The box within the law. -/
abbrev opBox (kind K g c : Int) (ab : Option Addr) (n cb : Nat) : Obj := .cells #[.int .i64 kind, .int .i64 K, .int .i64 g, .int .i64 c, .slice ab n cb] 42 (0, 0)

theorem opBox_cells {wr : World} {B : Nat} {kind K g c : Int} {ab : Option Addr} {n cb : Nat} (h : wr.heap[B]? = some (opBox kind K g c ab n cb)) : wr.cell? ⟨B, 0, none⟩ = some (.int .i64 kind) ∧ wr.cell? ⟨B, 1, none⟩ = some (.int .i64 K) ∧ wr.cell? ⟨B, 2, none⟩ = some (.int .i64 g) ∧ wr.cell? ⟨B, 3, none⟩ = some (.int .i64 c) ∧ wr.cell? ⟨B, 4, none⟩ = some (.slice ab n cb) ∧ B < wr.heap.size := by
  refine ⟨?_, ?_, ?_, ?_, ?_, lt_of_block h⟩ <;> simp [World.cell?, h]

/-- What is asked behind each operation: the same of both. -/
theorem AlikeB.tells {w wc : World} {p q p' q' : Nat} {z0 : List Int} {L i B : Nat} {o : Obj} {mv : Value} (h : AlikeB w p q p' q' z0 L i B o mv wc) (hi : i ≤ 1000) (g c : Int) (hn : Fits (g, c)) :
    ∃ (K : Bool) (D pn pc : Nat) (pa : Option Addr), wc.cell? ⟨p, 0, none⟩ = some (.pointer (some ⟨q, 0, none⟩)) ∧ q < wc.heap.size ∧ p < wc.heap.size ∧ wc.cell? ⟨p', 0, none⟩ = some (.pointer (some ⟨q', 0, none⟩)) ∧ p' < wc.heap.size ∧ q' < wc.heap.size ∧ wc.cell? ⟨q', 1, none⟩ = some (.int .i64 (D : Int)) ∧ wc.cell? ⟨p', 4, none⟩ = some (.slice pa pn pc) ∧
      ∀ w', Chg no wc w' → (Calls Try.prog 21 #[.pointer (some ⟨p, 0, none⟩), nv g c] w' fun e w'' => e = .returned (.bool K) ∧ Chg no w' w'') ∧ (Calls Try.prog 22 #[.pointer (some ⟨p', 0, none⟩), nv g c] w' fun e w'' => e = .returned (.bool K) ∧ Chg no w' w'') ∧
        (Calls Try.prog 23 #[.pointer (some ⟨q, 0, none⟩)] w' fun e w'' => e = .returned (.int .i64 (D : Int)) ∧ w'' = w') ∧ (Calls Try.prog 24 #[.pointer (some ⟨p, 0, none⟩)] w' fun e w'' => e = .returned (.int .i64 L) ∧ w'' = w') ∧
        (Calls Try.prog 25 #[.pointer (some ⟨p, 0, none⟩)] w' fun e w'' => ∃ xa ca, e = .returned (.slice xa pn ca) ∧ Chg no w' w'' ∧ Calls Try.prog 16 #[.slice xa pn ca, .slice pa pn pc] w'' fun e w3 => e = .returned (.bool true) ∧ w3 = w'') := by
  obtain ⟨S, vs, cs, F, G, H, N, h1, h2, h3, h4, h5, h6⟩ := h
  have ho := h1.orc
  obtain ⟨t0, t1, tv, T⟩ := ho.tape
  obtain ⟨b, tv', dv, pv, vs', I, R⟩ := h1.ror
  obtain ⟨r0, r1, r2, r3, r4, _, _⟩ := R.cells
  obtain ⟨pa, pc, hpv⟩ := owns_shape R.pln
  subst hpv
  have hq1 : wc.cell? ⟨q', 1, none⟩ = some (.int .i64 ((S.ks.length * S.L : Nat) : Int)) := (cells2 R.tpe.blk).2.1
  refine ⟨S.knows (g, c), S.ks.length * S.L, S.pl.length, pc, pa, t0, t1, ho.plt, r0, R.lt _ R.fp, R.lt _ R.fq, hq1, r4, ?_⟩
  intro w' k
  have ho' := ho.chg k (fun _ _ h => h)
  obtain ⟨t0', t1', tv2, T'⟩ := ho'.tape
  have hL := length_any ho'
  rw [h2.L] at hL
  refine ⟨known_any ho' g c hn, rknown_any (h1.ror.same k) g c hn, drawn_any T', hL, ?_⟩
  refine (plain_new ho' (by have := h2.p; omega)).mono ?_
  rintro e w'' ⟨v, rfl, hN⟩
  obtain ⟨xa, ca, rfl⟩ := hN.shape
  exact ⟨xa, ca, rfl, hN.2, bytes_same (K := fun _ => True) hN.lies (Lies.of_owns ((k.then hN.2).owns R.pln (fun _ _ h => h)) (fun _ _ => trivial))⟩

theorem OpsAt.chg {w w' : World} {a : Option Addr} {len : Nat} {O : Nat → OpA} (h : OpsAt w a len O) (k : Chg no w w') : OpsAt w' a len O := by
  intro i hi
  obtain ⟨x, h0, h1, h2, h3, h4, h5, h6, h7⟩ := h i hi
  exact ⟨x, h0, k.cell h1 id, k.cell h2 id, k.cell h3 id, k.cell h4 id, k.cell h5 id, (h6.chg k (fun _ _ h => h)).mono (fun j hj => by have := k.size; unfold Old at *; omega), h7⟩

set_option maxRecDepth 100000 in
set_option maxHeartbeats 2000000 in
theorem early (w : World) (a0 : Option Addr) (l0 c0 : Nat) (l : Int) (a2 : Option Addr) (l2 c2 : Nat) (hh : 2000 < l0 ∨ 100 < l) :
    Calls Try.prog 3 #[.slice a0 l0 c0, .int .i64 l, .slice a2 l2 c2] w fun e w' => e = .returned (.bool true) ∧ Below w.heap.size w w' := by
  have hc : (2000 < (l0 : Int)) ∨ ((l0 : Int) ≤ 2000 ∧ 100 < l) := by omega
  clear hh
  rcases hc with h1 | ⟨h1, h2⟩
  all_goals
    go_enter Try.func3, Try.ntmps3
    go_wp2_with fail
    refine (first_any _).mono ?_
    rintro e w1 ⟨rfl, k1⟩
    go_wp2_with fail
    refine (first_any _).mono ?_
    rintro e w3 ⟨rfl, k3⟩
    go_wp2
    go_ret
    exact ⟨rfl, (k1.then k3).below⟩

set_option maxRecDepth 100000 in
set_option maxHeartbeats 4000000 in
theorem short (w : World) (a0 : Option Addr) (c0 : Nat) (z0 : List Int) (l : Int) (a2 : Option Addr) (l2 c2 : Nat) (O : Nat → OpA)
    (h0 : Lies (Old w) w (.slice a0 z0.length c0) (z0.map (Value.int .u8))) (hO : OpsAt w a2 l2 O) (e0 : z0.length ≤ 2000) (hl : l < 1) (k2 : l2 ≤ c2) (k3 : c2 ≤ maxLen) :
    Calls Try.prog 3 #[.slice a0 z0.length c0, .int .i64 l, .slice a2 l2 c2] w fun e w' => e = .returned (.bool true) ∧ Below w.heap.size w w' := by
  have i0 : (z0.length : Int) ≤ 2000 := by omega
  have i1 : l ≤ 100 := by omega
  have HB1 := fun w v => new_bad w v l (.inl hl)
  have HB2 := fun w v => rnew_bad w v l (.inl hl)
  have HOP : Hid (OpsAt w a2 l2 O) := hO
  have HL0 : Hid (∀ w', Chg no w w' → Lies (Old w) w' (.slice a0 z0.length c0) (z0.map (Value.int .u8))) := fun w' k => h0.chg k (fun _ _ h => h)
  clear h0 hO
  go_enter Try.func3, Try.ntmps3
  go_wp2_with fail
  refine (first_any _).mono ?_
  rintro e w1 ⟨rfl, k1⟩
  have HF := few_any w1 a2 l2 c2 O (OpsAt.chg HOP.out k1) k2 k3
  go_wp2_with fail
  refine HF.mono ?_
  rintro e w1' ⟨b, rfl, hfew, rfl⟩
  clear HF hfew
  cases b
  case false =>
    go_wp2_with fail
    refine (first_any _).mono ?_
    rintro e wz ⟨rfl, kz⟩
    go_wp2
    go_ret
    exact ⟨rfl, (k1.then kz).below⟩
  have HN := newPads_any _ z0 _ w1' (HL0.out _ k1) (by omega)
  go_wp2_with fail
  refine HN.mono ?_
  rintro e w2 ⟨q, tv, rfl, T2, hq, htv, k2', hql⟩
  have K2 := k1.then k2'
  clear HN T2 hq htv hql k1 k2'
  go_wp2_with fail
  refine (HB1 _ _).mono ?_
  rintro e w3 ⟨rfl, rfl⟩
  go_wp2_with fail
  refine (HB2 _ _).mono ?_
  rintro e w4 ⟨rfl, rfl⟩
  have K3 := K2.alloc (.cells #[.slice a0 z0.length c0, .int .i64 0] 37)
  clear HB1 HB2
  go_wp2_with fail
  go_loopw [11, 12] (fun mv i wr => mv = .slice none 0 0 ∧ i = .int .i64 0 ∧ Chg no w wr) (fun _ _ _ => 0)
  case atStart => exact ⟨rfl, rfl, K3⟩
  case round =>
    obtain ⟨rfl, rfl, hK⟩ := hrel
    clear K2 K3
    go_wp2_with fail
    refine (first_any _).mono ?_
    rintro e wz ⟨rfl, kz⟩
    go_wp2
    go_ret
    exact ⟨rfl, (hK.then kz).below⟩

set_option maxRecDepth 100000 in
set_option maxHeartbeats 32000000 in
theorem late (w : World) (a0 : Option Addr) (c0 : Nat) (z0 : List Int) (L : Nat) (a2 : Option Addr) (l2 c2 : Nat) (O : Nat → OpA)
    (h0 : Lies (Old w) w (.slice a0 z0.length c0) (z0.map (Value.int .u8))) (b0 : Bytes z0) (hO : OpsAt w a2 l2 O) (e0 : z0.length ≤ 2000) (l1 : 1 ≤ L) (hL : L ≤ 100) (k2 : l2 ≤ c2) (k3 : c2 ≤ maxLen) :
    Calls Try.prog 3 #[.slice a0 z0.length c0, .int .i64 L, .slice a2 l2 c2] w fun e w' => e = .returned (.bool true) ∧ Below w.heap.size w w' := by
  obtain ⟨i0', hi0, hz0, hz1, hz2⟩ := info_parts infoS
  have i0 : (z0.length : Int) ≤ 2000 := by omega
  have i1 : (1 : Int) ≤ L := by omega
  have i2 : (L : Int) ≤ 100 := by omega
  have HOP : Hid (OpsAt w a2 l2 O) := hO
  have HB0 : Hid (Bytes z0) := b0
  have HL0 : Hid (∀ w', Chg no w w' → Lies (Old w) w' (.slice a0 z0.length c0) (z0.map (Value.int .u8))) := fun w' k => h0.chg k (fun _ _ h => h)
  clear h0 b0 hO
  go_enter Try.func3, Try.ntmps3
  go_wp2_with fail
  refine (first_any _).mono ?_
  rintro e w1 ⟨rfl, k1⟩
  have HF := few_any w1 a2 l2 c2 O (OpsAt.chg HOP.out k1) k2 k3
  go_wp2_with fail
  refine HF.mono ?_
  rintro e w1' ⟨b, rfl, hfew, rfl⟩
  cases b
  case false =>
    clear HF hfew
    go_wp2_with fail
    refine (first_any _).mono ?_
    rintro e wz ⟨rfl, kz⟩
    go_wp2
    go_ret
    exact ⟨rfl, (k1.then kz).below⟩
  obtain ⟨hf1, hfe⟩ := hfew rfl
  have i3 : (l2 : Int) ≤ 100 := by omega
  have HFE : Hid (∀ i, i < l2 → (O i).zs.length ≤ 20000) := hfe
  clear hfe hfew
  have HN := newPads_any _ z0 _ w1' (HL0.out _ k1) (by omega)
  clear HF
  go_wp2_with fail
  refine HN.mono ?_
  rintro e w2 ⟨q, tv, rfl, T2, hq, htv, k2', hql⟩
  have HNO := new_ok T2 L l1 (by omega)
  have hs1 := k1.size
  have hs2 := k2'.size
  clear HN T2
  go_wp2_with fail
  refine HNO.mono ?_
  rintro e w3 ⟨p, rfl, O3, k3'⟩
  have K3 := (k1.then k2').then k3'
  have hs3 := k3'.size
  obtain ⟨F, hF⟩ : ∃ F : Nat → Prop, F = fun k => k = q ∨ tv.ownBlock = some k ∨ (w2.heap.size ≤ k ∧ k < w3.heap.size) := ⟨_, rfl⟩
  have hFB : ∀ k, F k → w.heap.size ≤ k ∧ k < w3.heap.size := by
    intro k hk
    rw [hF] at hk
    rcases hk with e | e | e
    · omega
    · have := htv k e
      omega
    · omega
  rw [← hF] at O3
  have kq : Chg no w3 (w3.alloc (.cells #[.slice a0 z0.length c0, .int .i64 0] 37)) := (Chg.refl no w3).alloc _
  have gq : (w3.alloc (.cells #[.slice a0 z0.length c0, .int .i64 0] 37)).heap[w3.heap.size]? = some (.cells #[.slice a0 z0.length c0, .int .i64 0] 37 (0, 0)) := heap_alloc_new _ _
  obtain ⟨w4, hw4⟩ : ∃ w4, w3.alloc (.cells #[.slice a0 z0.length c0, .int .i64 0] 37) = w4 := ⟨_, rfl⟩
  have hs4 : w4.heap.size = w3.heap.size + 1 := by rw [← hw4]; simp
  rw [hw4] at kq gq
  have hRpe : Rpe (Old w) w4 w3.heap.size (.slice a0 z0.length c0) 0 z0 := ⟨gq, HL0.out _ (K3.then kq), fun e => by have := K3.size; unfold Old at e; omega, by omega⟩
  have HRN := rnew_ok hRpe (fun k hk => by have := K3.size; unfold Old at hk; omega) L l1 (by omega)
  have O4 := O3.chg kq (fun _ _ h => h)
  have K4 := K3.then kq
  clear HNO hF htv k1 k2' k3' hq hql gq hRpe O3 kq
  go_wp2_with fail
  refine HRN.mono ?_
  rintro e w5 ⟨p', rfl, R5, k5⟩
  obtain ⟨q', hq'⟩ : ∃ q', w3.heap.size = q' := ⟨_, rfl⟩
  rw [hq'] at R5
  have hs5 := k5.size
  have HA : Hid (Alike w p q p' q' z0 L 0 (.slice none 0 0) w5) := by
    refine ⟨OS.fresh z0 L, [], [], F, _, fun _ => False, Old w, ⟨O4.chg k5 (fun _ _ h => h), R5, World.ownsRow_nil _ _ _ _, fun k hk => by simp [Value.ownBlock] at hk, fun i hi => by simp at hi, ?_, ?_, fun k hk => hk.elim, ?_, fun k hk => hk, K4.then k5⟩, ⟨rfl, rfl, by simp [OS.fresh], by simp [OS.fresh]⟩, by simp, fun j hj => by simp at hj⟩
    · intro k hk
      have := hFB k hk
      refine ⟨fun e => by rcases e with e | e <;> omega, fun e => e, fun e => by unfold Old at e; omega, this.1, by omega⟩
    · intro k hk
      have := K3.size
      refine ⟨fun e => e, fun e => by unfold Old at e; rcases hk with hk | hk <;> omega, by rcases hk with hk | hk <;> omega, by rcases hk with hk | hk <;> omega⟩
    · intro k hk
      have := (K4.then k5).size
      unfold Old at hk
      omega
  have hpl := (O4.chg k5 (fun _ _ h => h)).plt
  clear HRN R5 k5 O4 K4 K3 hFB hq' hw4 hs1 hs2 hs3 hs4 hs5 HL0 hpl
  go_wp2_with fail
  go_loopw [11, 12] (fun mv i wr => ∃ j : Nat, j ≤ l2 ∧ i = .int .i64 (j : Int) ∧ Alike w p q p' q' z0 L j mv wr) (fun _ i _ => l2 - (intOf i).toNat)
  case atStart => exact ⟨0, by omega, rfl, HA.out⟩
  case round =>
    clear HA
    obtain ⟨j, hj, rfl, hA⟩ := hrel
    obtain ⟨ma, mn, mc, rfl, hmn⟩ := hA.shape
    by_cases hjl : j < l2
    · have hji : (j : Int) < l2 := by omega
      obtain ⟨x, ab, cb, rfl, hb, hcb1, hcb2, e1, e2, e3, e4, e5, el, ebz, eft⟩ := HOP.out.at hA.chg j hjl
      have hzl := HFE.out j hjl
      obtain ⟨x', e0', e1', e2', e3', e4', e5', el0, _, _⟩ := HOP.out j hjl
      obtain ⟨op, hop⟩ : ∃ op, O j = op := ⟨_, rfl⟩
      rw [hop] at hb hcb1 e1 e2 e3 e4 e5 el ebz eft hzl el0
      obtain ⟨kind, K, g, c, bv, zs⟩ := op
      simp only at hb hcb1 e1 e2 e3 e4 e5 el ebz eft hzl el0
      rw [hb] at el0
      clear e0' e1' e2' e3' e4' e5' hop el
      have hx2 := hA.box #[.int .i64 kind, .int .i64 K, .int .i64 g, .int .i64 c, .slice ab zs.length cb] 42
      clear hA
      go_upto_block 2 with fail
      obtain ⟨wX, hwX⟩ : ∃ wX, wr.alloc (.cells #[.int .i64 kind, .int .i64 K, .int .i64 g, .int .i64 c, .slice ab zs.length cb] 42) = wX := ⟨_, rfl⟩
      obtain ⟨PB, hPB⟩ : ∃ PB, wr.heap.size = PB := ⟨_, rfl⟩
      rw [hwX, hPB] at hx2
      simp only [hwX, hPB]
      clear hwX hPB e1 e2 e3 e4 e5
      have HB : Hid (AlikeB w p q p' q' z0 L j PB (opBox kind K g c ab zs.length cb) (.slice ma mn mc) wX) := hx2
      obtain ⟨z0', z1', z2', z3', z4', zl'⟩ := opBox_cells (by obtain ⟨S, vs, cs, F, G, H, N, h1, h2, h3, h4, h5, h6⟩ := hx2; exact h6)
      clear hx2
      go_cut [11, 14, 15, 16, 17, 18, 19, 20, 21, 22, 23, 24, 25, 26] from 83 to 193 (fun mv ok _ _ _ _ _ _ _ _ _ _ _ _ wc => ok = .bool true ∧ AlikeB w p q p' q' z0 L (j + 1) PB (opBox kind K g c ab zs.length cb) mv wc)
      case first =>
        by_cases hk0 : kind = 0
        · subst hk0
          obtain ⟨W, cz, cs, S, hSA, hczl, hczb, hcl, C1, C2⟩ := play_seal HB.out HB0.out l1 hL (by omega) g c eft (.slice ab zs.length cb) zs el0 hzl ebz
          go_wp2_with fail
          refine C1.mono ?_
          rintro e w5 ⟨v5, rfl, M5⟩
          obtain ⟨gb5, xa5, ca5, rfl⟩ := M5.box
          have HM5 : Hid _ := M5
          have HC2 : Hid (∀ v w', Mid w p q p' q' z0 L j PB (opBox 0 K g c ab zs.length cb) (.slice ma mn mc) (S.sealed (g, c) zs) S cs v cz w' → Calls Try.prog 14 #[.pointer (some ⟨p', 0, none⟩), nv g c, .slice ab zs.length cb] w' fun e w'' => ∃ v2, e = .returned (.tuple #[v2, .int .i64 W]) ∧ Capd v2 ∧ ∃ vs F G H N, PlayIn w p q p' q' (S.sealed (g, c) zs) (S.sealed (g, c) zs) (.slice ma mn mc) vs cs F G H N w'' ∧ (∀ j, j < cs.length → (cs.getD j []).length ≤ 200) ∧ N PB ∧ w''.heap[PB]? = some (opBox 0 K g c ab zs.length cb) ∧ Lies N w'' v (cz.map (Value.int .u8)) ∧ Lies N w'' v2 (cz.map (Value.int .u8))) := C2
          clear C1 C2 M5 z0' z1' z2' z3' z4' zl'
          go_wp2_with fail
          obtain ⟨pG, hpG⟩ : ∃ pG : World → Prop, ∀ w', pG w' ↔ w'.heap[PB]? = some (opBox 0 K g c ab zs.length cb) := ⟨_, fun _ => Iff.rfl⟩
          have xN2 : ∀ x' : far.InC pG, x'.w.cell? ⟨PB, 2, none⟩ = some (.int .i64 g) := fun x => (opBox_cells ((hpG _).1 x.h)).2.2.1
          have xN3 : ∀ x' : far.InC pG, x'.w.cell? ⟨PB, 3, none⟩ = some (.int .i64 c) := fun x => (opBox_cells ((hpG _).1 x.h)).2.2.2.1
          have xN4 : ∀ x' : far.InC pG, x'.w.cell? ⟨PB, 4, none⟩ = some (.slice ab zs.length cb) := fun x => (opBox_cells ((hpG _).1 x.h)).2.2.2.2.1
          have iG : Nonempty (far.InC pG) := ⟨⟨w5, (hpG _).2 gb5⟩⟩
          have HpG : Hid (∀ w', pG w' ↔ w'.heap[PB]? = some (opBox 0 K g c ab zs.length cb)) := hpG
          have HGB : Hid (w5.heap[PB]? = some (opBox 0 K g c ab zs.length cb)) := gb5
          have Y0 : Chg no w5 w5.drew := (Chg.refl no w5).drew
          clear hpG gb5
          refine far.region_farM (fun κ w' => pG w') [3, 6] (by kernel_rfl) (by kernel_rfl) ((HpG.out _).2 (Y0.heap HGB.out id)) ?_
          intro LL e1' e2' e3'
          refine far.farO_stretch pG 3 0 1 e1' e2' e3' (by kernel_rfl) (by kernel_rfl) (fun κ w' hk1 hk2 hC => hC) ?_
          simp only [List.take_succ_cons, List.take_zero, List.drop_succ_cons, List.drop_zero, Nat.reduceAdd]
          repeat (go_big_quiet_step (fail))
          refine wpQuiet_nil ?_
          refine far.farO_enter e1' e2' 0 rfl rfl 15 #[nv g c] (by kernel_rfl) (by kernel_rfl) ?_
          refine (plain_any _ g c).mono ?_
          rintro e wa ⟨rfl, ka⟩
          have Ka := Y0.then ka
          refine ⟨_, rfl, (HpG.out _).2 (Ka.heap HGB.out id), ?_⟩
          simp only [Act.put, List.setIfInBounds_toArray, List.set_cons_succ, List.set_cons_zero, Nat.reduceAdd]
          refine far.farO_stretch pG 2 0 1 e1' e2' e3' (by kernel_rfl) (by kernel_rfl) (fun κ w' hk1 hk2 hC => hC) ?_
          simp only [List.take_succ_cons, List.take_zero, List.drop_succ_cons, List.drop_zero, Nat.reduceAdd]
          repeat (go_big_quiet_step (fail))
          refine wpQuiet_nil ?_
          refine far.farO_enter e1' e2' 1 rfl rfl 14 #[.pointer (some ⟨p', 0, none⟩), nv g c, .slice ab zs.length cb] (by kernel_rfl) (by kernel_rfl) ?_
          refine (HC2.out _ _ (Mid.same HM5.out Ka)).mono ?_
          rintro e wb ⟨v6, rfl, hc6, vs6, F6, G6, H6, N6, P6, hl6, hB6, gb6, la6, lb6⟩
          refine ⟨_, rfl, (HpG.out _).2 gb6, ?_⟩
          obtain ⟨xb6, cb6, hv6, _⟩ := lb6.slice
          rw [List.length_map] at hv6
          subst hv6
          simp only [Act.put, List.setIfInBounds_toArray, List.set_cons_succ, List.set_cons_zero, Nat.reduceAdd]
          have HBY := bytes_same la6 lb6
          have HAE : Hid (AlikeB w p q p' q' z0 L (j + 1) PB (opBox 0 K g c ab zs.length cb) (.slice ma mn mc) wb) := ⟨_, vs6, cs, F6, G6, H6, N6, P6, hSA.sealed hL (g, c) zs, by omega, hl6, hB6, gb6⟩
          have HMA : Hid _ := made_add P6 (hSA.sealed hL (g, c) zs) hcl hl6 hB6 gb6 lb6 hc6 hczb hczl
          clear HM5 HC2 P6 la6 lb6 hl6
          refine far.farO_stretch pG 5 2 2 e1' e2' e3' (by kernel_rfl) (by kernel_rfl) (fun κ w' hk1 hk2 hC => hC) ?_
          simp only [List.take_succ_cons, List.take_zero, List.drop_succ_cons, List.drop_zero, Nat.reduceAdd]
          repeat (go_big_quiet_step (fail))
          refine wpQuiet_nil ?_
          refine far.farO_nil ?_
          go_wp2_with fail
          refine HBY.mono ?_
          rintro e wc' ⟨rfl, rfl⟩
          clear HBY HpG xN2 xN3 xN4 iG
          by_cases hW : W = 0
          · subst hW
            obtain ⟨hmn2, ho2, hadd⟩ := HMA.out
            have HO2 : Hid _ := ho2
            have HAD : Hid _ := hadd
            clear ho2 hadd HMA
            go_wp2_with (at_builtin; refine wpList_append_at rfl _ _ 38 rfl 22 i0' (.slice none 0 0) 1 24 Try.underlying38 hi0 hz0 hz1 hz2 rfl (by decide) (.slice ma mn mc) mn vs6 rfl HO2.out ⟨wc'.heap.size, 0, none⟩ 1 1 [.slice xb6 cz.length cb6] rfl rfl news_at (by intro u hu; simp at hu; subst hu; rfl) (by unfold maxLen; omega) (by omega) ?_; intro v9 w9 o9 g9 n9; have A9 := HAD.out v9 w9 o9 g9 n9; obtain ⟨a9, c9, rfl⟩ := owns_shape o9; have HA9 : Hid _ := A9; clear o9 g9 n9 A9)
            go_wp2
            go_meet
            case rel => exact ⟨rfl, HA9.out⟩
          · have hWb : (W == 0) = false := by simpa using hW
            clear HMA
            go_wp2
            go_meet
            case rel => exact ⟨rfl, HAE.out⟩
        by_cases hk1 : kind = 1
        · subst hk1
          obtain ⟨W, tx, cs, S, hSA, C1, C2⟩ := play_open HB.out l1 hL (by omega) ab cb zs hzl ebz hcb1 hcb2 el0
          have HC2 : Hid _ := C2
          clear C2
          go_wp2_with fail
          refine C1.mono ?_
          rintro e w5 ⟨v5, rfl, M5⟩
          obtain ⟨gb5, xa5, ca5, rfl⟩ := M5.box
          have C3 := HC2.out _ _ M5
          obtain ⟨y0, y1, y2, y3, y4, yl⟩ := opBox_cells gb5
          clear C1 HC2 M5 z0' z1' z2' z3' z4' zl' gb5
          go_wp2_with fail
          refine C3.mono ?_
          rintro e w6 ⟨v6, rfl, A6, la6, lb6⟩
          obtain ⟨xb6, cb6, hv6, _⟩ := lb6.slice
          rw [List.length_map] at hv6
          subst hv6
          have HBY := bytes_same la6 lb6
          have HA6 : Hid (AlikeB w p q p' q' z0 L (j + 1) PB (opBox 1 K g c ab zs.length cb) (.slice ma mn mc) w6) := A6.more
          clear C3 A6 la6 lb6 y0 y1 y2 y3 y4 yl
          go_wp2_with fail
          refine HBY.mono ?_
          rintro e w7 ⟨rfl, rfl⟩
          clear HBY
          go_wp2
          go_meet
          case rel => exact ⟨rfl, HA6.out⟩
        by_cases hk2 : kind = 2
        · subst hk2
          obtain ⟨tx, cs, S, hSA, htl, C1, C2⟩ := play_pad (HB.out.same ((Chg.refl no wX).drew)) l1 hL (by omega) g c eft
          have HC1 : Hid (Calls Try.prog 19 #[.pointer (some ⟨p, 0, none⟩), nv g c] wX.drew fun e w' => ∃ v, e = .returned v ∧ Mid w p q p' q' z0 L j PB (opBox 2 K g c ab zs.length cb) (.slice ma mn mc) (S.ask (g, c)) S cs v tx w') := C1
          have HC2 : Hid (∀ v w', Mid w p q p' q' z0 L j PB (opBox 2 K g c ab zs.length cb) (.slice ma mn mc) (S.ask (g, c)) S cs v tx w' → Calls Try.prog 20 #[.pointer (some ⟨p', 0, none⟩), nv g c] w' fun e w'' => ∃ v2, e = .returned v2 ∧ AlikeB w p q p' q' z0 L (j + 1) PB (opBox 2 K g c ab zs.length cb) (.slice ma mn mc) w'' ∧ Lies (fun _ => True) w'' v (tx.map (Value.int .u8)) ∧ Lies (fun _ => True) w'' v2 (tx.map (Value.int .u8))) := C2
          have HTL : Hid (tx.length = L) := htl
          have gX : wX.heap[PB]? = some (opBox 2 K g c ab zs.length cb) := by obtain ⟨S, vs, cs, F, G, H, N, h1, h2, h3, h4, h5, h6⟩ := HB.out; exact h6
          clear C1 C2 htl
          go_wp2_with fail
          obtain ⟨pG, hpG⟩ : ∃ pG : World → Prop, ∀ w', pG w' ↔ w'.heap[PB]? = some (opBox 2 K g c ab zs.length cb) := ⟨_, fun _ => Iff.rfl⟩
          have xN2 : ∀ x' : far.InC pG, x'.w.cell? ⟨PB, 2, none⟩ = some (.int .i64 g) := fun x => (opBox_cells ((hpG _).1 x.h)).2.2.1
          have xN3 : ∀ x' : far.InC pG, x'.w.cell? ⟨PB, 3, none⟩ = some (.int .i64 c) := fun x => (opBox_cells ((hpG _).1 x.h)).2.2.2.1
          have iG : Nonempty (far.InC pG) := ⟨⟨wX, (hpG _).2 gX⟩⟩
          have HpG : Hid (∀ w', pG w' ↔ w'.heap[PB]? = some (opBox 2 K g c ab zs.length cb)) := hpG
          have HGB : Hid (wX.heap[PB]? = some (opBox 2 K g c ab zs.length cb)) := gX
          have Y0 : Chg no wX wX.drew := (Chg.refl no wX).drew
          clear hpG gX z0' z1' z2' z3' z4' zl'
          refine far.region_farM (fun κ w' => pG w') [3, 7, 8, 9] (by kernel_rfl) (by kernel_rfl) ((HpG.out _).2 (Y0.heap HGB.out id)) ?_
          intro LL e1' e2' e3'
          refine far.farO_stretch pG 3 0 0 e1' e2' e3' (by kernel_rfl) (by kernel_rfl) (fun κ w' hk1 hk2 hC => hC) ?_
          simp only [List.take_succ_cons, List.take_zero, List.drop_succ_cons, List.drop_zero, Nat.reduceAdd]
          repeat (go_big_quiet_step (fail))
          refine wpQuiet_nil ?_
          refine far.farO_enter e1' e2' 0 rfl rfl 19 #[.pointer (some ⟨p, 0, none⟩), nv g c] (by kernel_rfl) (by kernel_rfl) ?_
          refine HC1.out.mono ?_
          rintro e wa ⟨va, rfl, Ma⟩
          obtain ⟨gba, xa5, ca5, rfl⟩ := Ma.box
          refine ⟨_, rfl, (HpG.out _).2 gba, ?_⟩
          simp only [HTL.out] at Ma ⊢
          simp only [Act.put, List.setIfInBounds_toArray, List.set_cons_succ, List.set_cons_zero, Nat.reduceAdd]
          refine far.farO_stretch pG 3 0 2 e1' e2' e3' (by kernel_rfl) (by kernel_rfl) (fun κ w' hk1 hk2 hC => hC) ?_
          simp only [List.take_succ_cons, List.take_zero, List.drop_succ_cons, List.drop_zero, Nat.reduceAdd]
          repeat (go_big_quiet_step (fail))
          refine wpQuiet_nil ?_
          refine far.farO_enter e1' e2' 1 rfl rfl 15 #[nv g c] (by kernel_rfl) (by kernel_rfl) ?_
          refine (plain_any _ g c).mono ?_
          rintro e wb ⟨rfl, kb⟩
          refine ⟨_, rfl, (HpG.out _).2 (kb.heap gba id), ?_⟩
          simp only [Act.put, List.setIfInBounds_toArray, List.set_cons_succ, List.set_cons_zero, Nat.reduceAdd]
          refine far.farO_enter e1' e2' 2 rfl rfl 20 #[.pointer (some ⟨p', 0, none⟩), nv g c] (by kernel_rfl) (by kernel_rfl) ?_
          refine (HC2.out _ _ (Mid.same Ma kb)).mono ?_
          rintro e wd ⟨vd, rfl, A6, la6, lb6⟩
          obtain ⟨xb6, cb6, hv6, _⟩ := lb6.slice
          rw [List.length_map, HTL.out] at hv6
          subst hv6
          refine ⟨_, rfl, (HpG.out _).2 (by obtain ⟨S, vs, cs, F, G, H, N, h1, h2, h3, h4, h5, h6⟩ := A6; exact h6), ?_⟩
          simp only [Act.put, List.setIfInBounds_toArray, List.set_cons_succ, List.set_cons_zero, Nat.reduceAdd]
          refine far.farO_enter e1' e2' 3 rfl rfl 16 #[.slice xa5 L ca5, .slice xb6 L cb6] (by kernel_rfl) (by kernel_rfl) ?_
          refine (bytes_same la6 lb6).mono ?_
          rintro e we ⟨rfl, rfl⟩
          refine ⟨_, rfl, (HpG.out _).2 (by obtain ⟨S, vs, cs, F, G, H, N, h1, h2, h3, h4, h5, h6⟩ := A6; exact h6), ?_⟩
          simp only [Act.put, List.setIfInBounds_toArray, List.set_cons_succ, List.set_cons_zero, Nat.reduceAdd]
          have HA6 : Hid (AlikeB w p q p' q' z0 L (j + 1) PB (opBox 2 K g c ab zs.length cb) (.slice ma mn mc) we) := A6
          clear A6 la6 lb6 Ma HC1 HC2 gba
          refine far.farO_stretch pG 1 4 4 e1' e2' e3' (by kernel_rfl) (by kernel_rfl) (fun κ w' hk1 hk2 hC => hC) ?_
          simp only [List.take_succ_cons, List.take_zero, List.drop_succ_cons, List.drop_zero, Nat.reduceAdd]
          repeat (go_big_quiet_step (fail))
          refine wpQuiet_nil ?_
          refine far.farO_nil ?_
          go_wp2
          go_meet
          case rel => exact ⟨rfl, HA6.out⟩
        by_cases hk3 : kind = 3
        · subst hk3
          by_cases hK0 : K < 0
          · have hA' : Hid (AlikeB w p q p' q' z0 L (j + 1) PB (opBox 3 K g c ab zs.length cb) (.slice ma mn mc) wX) := HB.out.more
            go_wp2
            go_meet
            case rel => exact ⟨rfl, hA'.out⟩
          · obtain ⟨Kn, rfl⟩ := Int.eq_ofNat_of_zero_le (show 0 ≤ K by omega)
            have hK0i : (0 : Int) ≤ (Kn : Int) := by omega
            by_cases hKm : Kn < mn
            · have hKmi : (Kn : Int) < mn := by omega
              obtain ⟨W, tl, gA, x3, l3, cx3, rfl, hcell, C1⟩ := play_made HB.out l1 hL (by omega) Kn hKm
              go_wp2_with fail
              refine C1.mono ?_
              rintro e w5 ⟨xa5, ca5, rfl, gb5, hcell5, C3⟩
              obtain ⟨y0, y1, y2, y3, y4, yl⟩ := opBox_cells gb5
              clear C1 z0' z1' z2' z3' z4' zl' gb5 hcell
              go_wp2_with fail
              refine C3.mono ?_
              rintro e w6 ⟨xb6, cb6, tx, rfl, A6, la6, lb6⟩
              have HBY := bytes_same la6 lb6
              have HA6 : Hid (AlikeB w p q p' q' z0 L (j + 1) PB (opBox 3 Kn g c ab zs.length cb) (.slice (some ⟨gA, 0, none⟩) mn mc) w6) := A6.more
              clear C3 A6 la6 lb6 y0 y1 y2 y3 y4 yl hcell5
              go_wp2_with fail
              refine HBY.mono ?_
              rintro e w7 ⟨rfl, rfl⟩
              clear HBY
              go_wp2
              go_meet
              case rel => exact ⟨rfl, HA6.out⟩
            · have hKmi : (mn : Int) ≤ Kn := by omega
              have hA' : Hid (AlikeB w p q p' q' z0 L (j + 1) PB (opBox 3 Kn g c ab zs.length cb) (.slice ma mn mc) wX) := HB.out.more
              go_wp2
              go_meet
              case rel => exact ⟨rfl, hA'.out⟩
        have hb0 : (kind == 0) = false := by simpa using hk0
        have hb1 : (kind == 1) = false := by simpa using hk1
        have hb2 : (kind == 2) = false := by simpa using hk2
        have hb3 : (kind == 3) = false := by simpa using hk3
        have hA' : Hid (AlikeB w p q p' q' z0 L (j + 1) PB (opBox kind K g c ab zs.length cb) (.slice ma mn mc) wX) := HB.out.more
        go_wp2
        go_meet
        case rel => exact ⟨rfl, hA'.out⟩
      case rest =>
        obtain ⟨rfl, hAB⟩ := hcut
        obtain ⟨ma2, mn2, mc2, hmv, hmn2⟩ := hAB.drop.shape
        subst hmv
        obtain ⟨KN, D, pn, pc2, pa, f1, f2, f3, f4, f5, f6, f7, f8, HT⟩ := hAB.tells (by omega) g c eft
        have gC : wc.heap[PB]? = some (opBox kind K g c ab zs.length cb) := by obtain ⟨S, vs, cs, F, G, H, N, h1, h2, h3, h4, h5, h6⟩ := hAB; exact h6
        obtain ⟨y0, y1, y2, y3, y4, yl⟩ := opBox_cells gC
        have HTT : Hid _ := HT
        have HABH : Hid (AlikeB w p q p' q' z0 L (j + 1) PB (opBox kind K g c ab zs.length cb) (.slice ma2 mn2 mc2) wc) := hAB
        clear HB hAB HT gC hcb1 hcb2 z0' z1' z2' z3' z4' zl' y0 y1 y4
        go_wp2_with fail
        obtain ⟨pG, hpG⟩ : ∃ pG : World → Prop, ∀ w', pG w' ↔ Chg no wc w' := ⟨_, fun _ => Iff.rfl⟩
        have x2 : ∀ x' : far.InC pG, x'.w.cell? ⟨PB, 2, none⟩ = some (.int .i64 g) := fun x => ((hpG _).1 x.h).cell y2 id
        have x3 : ∀ x' : far.InC pG, x'.w.cell? ⟨PB, 3, none⟩ = some (.int .i64 c) := fun x => ((hpG _).1 x.h).cell y3 id
        have x4 : ∀ x' : far.InC pG, x'.w.cell? ⟨p, 0, none⟩ = some (.pointer (some ⟨q, 0, none⟩)) := fun x => ((hpG _).1 x.h).cell f1 id
        have x5 : ∀ x' : far.InC pG, x'.w.cell? ⟨p', 0, none⟩ = some (.pointer (some ⟨q', 0, none⟩)) := fun x => ((hpG _).1 x.h).cell f4 id
        have x6 : ∀ x' : far.InC pG, x'.w.cell? ⟨q', 1, none⟩ = some (.int .i64 (D : Int)) := fun x => ((hpG _).1 x.h).cell f7 id
        have x7 : ∀ x' : far.InC pG, x'.w.cell? ⟨p', 4, none⟩ = some (.slice pa pn pc2) := fun x => ((hpG _).1 x.h).cell f8 id
        have x8 : ∀ x' : far.InC pG, p < x'.w.heap.size := fun x => Nat.lt_of_lt_of_le f3 ((hpG _).1 x.h).size
        have x9 : ∀ x' : far.InC pG, q < x'.w.heap.size := fun x => Nat.lt_of_lt_of_le f2 ((hpG _).1 x.h).size
        have x10 : ∀ x' : far.InC pG, p' < x'.w.heap.size := fun x => Nat.lt_of_lt_of_le f5 ((hpG _).1 x.h).size
        have x11 : ∀ x' : far.InC pG, q' < x'.w.heap.size := fun x => Nat.lt_of_lt_of_le f6 ((hpG _).1 x.h).size
        have iG : Nonempty (far.InC pG) := ⟨⟨wc, (hpG _).2 (Chg.refl no wc)⟩⟩
        have HpG : Hid (∀ w', pG w' ↔ Chg no wc w') := hpG
        have Y0 : Chg no wc wc.drew := (Chg.refl no wc).drew
        clear hpG f1 f2 f3 f4 f5 f6 f7 f8 y2 y3 yl
        refine far.region_farM (fun κ w' => pG w') [6, 10, 11, 21, 33, 39, 44] (by kernel_rfl) (by kernel_rfl) ((HpG.out _).2 Y0) ?_
        intro LL e1' e2' e3'
        refine far.farO_stretch pG 6 0 7 e1' e2' e3' (by kernel_rfl) (by kernel_rfl) (fun κ w' hk1 hk2 hC => hC) ?_
        simp only [List.take_succ_cons, List.take_zero, List.drop_succ_cons, List.drop_zero, Nat.reduceAdd]
        repeat (go_big_quiet_step (fail))
        refine wpQuiet_nil ?_
        refine far.farO_enter e1' e2' 0 rfl rfl 21 #[.pointer (some ⟨p, 0, none⟩), nv g c] (by kernel_rfl) (by kernel_rfl) ?_
        refine (HTT.out _ Y0).1.mono ?_
        rintro e wa ⟨rfl, ka⟩
        have Ka := Y0.then ka
        refine ⟨_, rfl, (HpG.out _).2 Ka, ?_⟩
        simp only [Act.put, List.setIfInBounds_toArray, List.set_cons_succ, List.set_cons_zero, Nat.reduceAdd]
        refine far.farO_stretch pG 3 0 7 e1' e2' e3' (by kernel_rfl) (by kernel_rfl) (fun κ w' hk1 hk2 hC => hC) ?_
        simp only [List.take_succ_cons, List.take_zero, List.drop_succ_cons, List.drop_zero, Nat.reduceAdd]
        repeat (go_big_quiet_step (fail))
        refine wpQuiet_nil ?_
        refine far.farO_enter e1' e2' 1 rfl rfl 15 #[nv g c] (by kernel_rfl) (by kernel_rfl) ?_
        refine (plain_any _ g c).mono ?_
        rintro e wb ⟨rfl, kb⟩
        have Kb := Ka.then kb
        refine ⟨_, rfl, (HpG.out _).2 Kb, ?_⟩
        simp only [Act.put, List.setIfInBounds_toArray, List.set_cons_succ, List.set_cons_zero, Nat.reduceAdd]
        refine far.farO_enter e1' e2' 2 rfl rfl 22 #[.pointer (some ⟨p', 0, none⟩), nv g c] (by kernel_rfl) (by kernel_rfl) ?_
        refine (HTT.out _ Kb).2.1.mono ?_
        rintro e wd ⟨rfl, kd⟩
        have Kd := Kb.then kd
        refine ⟨_, rfl, (HpG.out _).2 Kd, ?_⟩
        simp only [Act.put, List.setIfInBounds_toArray, List.set_cons_succ, List.set_cons_zero, Nat.reduceAdd]
        refine far.farO_stretch pG 9 0 7 e1' e2' e3' (by kernel_rfl) (by kernel_rfl) (fun κ w' hk1 hk2 hC => hC) ?_
        simp only [List.take_succ_cons, List.take_zero, List.drop_succ_cons, List.drop_zero, Nat.reduceAdd]
        repeat (go_big_quiet_step (fail))
        refine wpQuiet_nil ?_
        refine far.farO_enter e1' e2' 3 rfl rfl 23 #[.pointer (some ⟨q, 0, none⟩)] (by kernel_rfl) (by kernel_rfl) ?_
        refine (HTT.out _ Kd).2.2.1.mono ?_
        rintro e we ⟨rfl, rfl⟩
        refine ⟨_, rfl, (HpG.out _).2 Kd, ?_⟩
        simp only [Act.put, List.setIfInBounds_toArray, List.set_cons_succ, List.set_cons_zero, Nat.reduceAdd]
        refine far.farO_stretch pG 11 0 7 e1' e2' e3' (by kernel_rfl) (by kernel_rfl) (fun κ w' hk1 hk2 hC => hC) ?_
        simp only [List.take_succ_cons, List.take_zero, List.drop_succ_cons, List.drop_zero, Nat.reduceAdd]
        repeat (go_big_quiet_step (fail))
        refine wpQuiet_nil ?_
        refine far.farO_enter e1' e2' 4 rfl rfl 24 #[.pointer (some ⟨p, 0, none⟩)] (by kernel_rfl) (by kernel_rfl) ?_
        refine (HTT.out _ Kd).2.2.2.1.mono ?_
        rintro e wf ⟨rfl, rfl⟩
        refine ⟨_, rfl, (HpG.out _).2 Kd, ?_⟩
        simp only [Act.put, List.setIfInBounds_toArray, List.set_cons_succ, List.set_cons_zero, Nat.reduceAdd]
        refine far.farO_stretch pG 5 0 7 e1' e2' e3' (by kernel_rfl) (by kernel_rfl) (fun κ w' hk1 hk2 hC => hC) ?_
        simp only [List.take_succ_cons, List.take_zero, List.drop_succ_cons, List.drop_zero, Nat.reduceAdd]
        repeat (go_big_quiet_step (fail))
        refine wpQuiet_nil ?_
        refine far.farO_enter e1' e2' 5 rfl rfl 25 #[.pointer (some ⟨p, 0, none⟩)] (by kernel_rfl) (by kernel_rfl) ?_
        refine (HTT.out _ Kd).2.2.2.2.mono ?_
        rintro e wg ⟨xa9, ca9, rfl, kg, HBY⟩
        have Kg := Kd.then kg
        refine ⟨_, rfl, (HpG.out _).2 Kg, ?_⟩
        simp only [Act.put, List.setIfInBounds_toArray, List.set_cons_succ, List.set_cons_zero, Nat.reduceAdd]
        refine far.farO_stretch pG 4 0 7 e1' e2' e3' (by kernel_rfl) (by kernel_rfl) (fun κ w' hk1 hk2 hC => hC) ?_
        simp only [List.take_succ_cons, List.take_zero, List.drop_succ_cons, List.drop_zero, Nat.reduceAdd]
        repeat (go_big_quiet_step (fail))
        refine wpQuiet_nil ?_
        refine far.farO_enter e1' e2' 6 rfl rfl 16 #[.slice xa9 pn ca9, .slice pa pn pc2] (by kernel_rfl) (by kernel_rfl) ?_
        refine HBY.mono ?_
        rintro e wh ⟨rfl, rfl⟩
        refine ⟨_, rfl, (HpG.out _).2 Kg, ?_⟩
        simp only [Act.put, List.setIfInBounds_toArray, List.set_cons_succ, List.set_cons_zero, Nat.reduceAdd]
        have HAZ : Hid (Alike w p q p' q' z0 L (j + 1) (.slice ma2 mn2 mc2) wh) := (HABH.out.same Kg).drop
        clear HTT HBY HABH Ka Kb Kd ka kb kd kg
        refine far.farO_stretch pG 2 7 7 e1' e2' e3' (by kernel_rfl) (by kernel_rfl) (fun κ w' hk1 hk2 hC => hC) ?_
        simp only [List.take_succ_cons, List.take_zero, List.drop_succ_cons, List.drop_zero, Nat.reduceAdd]
        repeat (go_big_quiet_step (fail))
        refine wpQuiet_nil ?_
        refine far.farO_nil ?_
        clear x2 x3 x4 x5 x6 x7 x8 x9 x10 x11 iG HpG
        go_wp2
        go_roundw
        case rel => exact ⟨j + 1, by omega, by go_num, HAZ.out⟩
        case measure => simp [intOf]; omega
    · obtain rfl : j = l2 := by omega
      have hji : (j : Int) ≤ (j : Int) := by omega
      have K := hA.chg
      clear hA
      go_wp2_with fail
      refine (first_any _).mono ?_
      rintro e wz ⟨rfl, kz⟩
      go_wp2
      go_ret
      exact ⟨rfl, (K.then kz).below⟩

theorem walk (w : World) (a0 : Option Addr) (l0 c0 : Nat) (z0 : List Int) (l : Int) (a2 : Option Addr) (l2 c2 : Nat) (O : Nat → OpA)
    (w0 : Lies (Old w) w (.slice a0 l0 c0) (z0.map (Value.int .u8)) ∧ Bytes z0) (k0 : l0 ≤ c0) (w1 : (Lit.int .i64 l).wf = true) (w2 : OpsAt w a2 l2 O) (k2 : l2 ≤ c2) (k3 : c2 ≤ maxLen) :
    Calls Try.prog 3 #[.slice a0 l0 c0, .int .i64 l, .slice a2 l2 c2] w fun e w' => e = .returned (.bool true) ∧ Below w.heap.size w w' := by
  by_cases hh : 2000 < l0 ∨ 100 < l
  · exact early w a0 l0 c0 l a2 l2 c2 hh
  · obtain ⟨x, y, e, _⟩ := w0.1.slice
    rw [List.length_map] at e
    cases e
    by_cases hl : l < 1
    · exact short w a0 c0 z0 l a2 l2 c2 O w0.1 w2 (by omega) hl k2 k3
    · obtain ⟨L, rfl⟩ := Int.eq_ofNat_of_zero_le (show 0 ≤ l by omega)
      exact late w a0 c0 z0 L a2 l2 c2 O w0.1 w0.2 w2 (by omega) (by omega) (by omega) k2 k3

theorem own : ownKnob Try.prog.godebug = none := by kernel_rfl
theorem laidOut : laidOutB Try.prog = true := by kernel_rfl

set_option maxRecDepth 100000 in
theorem lifted (os : Os) (started : os.Started) (H : Type) (enc : TypeId × Value → H) :
    ReturnsInHanded {} Try.checked os 3 .any (Rows.sealPlaysSpec.pre6 enc Try.prog Try.f3 Rows.sealPlaysRow.domain false) (Rows.sealPlaysSpec.post enc Try.prog Try.f3 false true false false) := by
  refine returnsInHanded_of_change (C := Try.checked) own started (by kernel_rfl) Try.func3
    (ChangeSpec.witness6 (enc := enc) (C := Try.checked) false ⟨#[], #[.slice none 0 0, .int .i64 0, .slice none 0 0], []⟩ 8 (by kernel_rfl) (by kernel_rfl) (by kernel_rfl) (by kernel_rfl)) ?_
  intro W base args ds gs before hval0 hW hcnd _
  have hval : ∀ (j : Nat) t v, Try.f3.params[j]? = some t → args[j]? = some v → Value.okWide Try.prog W .any base t v := hval0
  have hW' := hW
  obtain ⟨p, q, hA0, hV, rfl, hfz, hnd⟩ := hW
  have hA : DataW.TrodAll enc Try.prog W 0 (fun _ => true) true Try.f3.params.toList args.toList ds p := hA0
  rw [Try.params3] at hA hval
  obtain ⟨v0, vs0, d0, ds0, p0, q0, hargs, rfl, rfl, h0, r0⟩ := trodAll_cons hA
  obtain ⟨v1, vs1, d1, ds1, p1, q1, rfl, rfl, rfl, h1, r1⟩ := trodAll_cons r0
  obtain ⟨v2, vs2, d2, ds2, p2, q2, rfl, rfl, rfl, h2, r2⟩ := trodAll_cons r1
  obtain ⟨rfl, rfl, rfl⟩ := trodAll_nil r2
  obtain rfl : args = #[v0, v1, v2] := by cases args; simp_all
  obtain ⟨rfl, rfl⟩ := trodVars_none hV
  obtain ⟨a0, len0, cap0, rfl⟩ := okWide_slice Try.underlying22 (hval 0 22 v0 rfl rfl)
  have k0 := h0
  have lt0 : ∀ x ∈ p0, x.block < W.heap.size := by obtain ⟨m, hm⟩ := k0; exact DataW.trod_lt m _ _ _ hm
  have c0 : len0 ≤ cap0 := by obtain ⟨m, hm⟩ := k0; exact (open_cap Try.underlying22 hm).1
  obtain ⟨z0, w0⟩ := (by obtain ⟨fuel, hf⟩ := h0; exact open_bytes hf : ∃ z : List Int, Lies (Old W) W (.slice a0 len0 cap0) (z.map (Value.int .u8)) ∧ Bytes z)
  obtain ⟨a1, rfl, rfl, rfl, w1⟩ := open_int Try.underlying3 (hval 1 3 v1 rfl rfl) h1
  obtain ⟨a2, len2, cap2, rfl⟩ := okWide_slice Try.underlying23 (hval 2 23 v2 rfl rfl)
  have k2 := h2
  have lt2 : ∀ x ∈ p2, x.block < W.heap.size := by obtain ⟨m, hm⟩ := k2; exact DataW.trod_lt m _ _ _ hm
  have c2 : len2 ≤ cap2 := by obtain ⟨m, hm⟩ := k2; exact (open_cap Try.underlying23 hm).1
  have c3 : cap2 ≤ maxLen := by obtain ⟨m, hm⟩ := k2; exact (open_cap Try.underlying23 hm).2
  obtain ⟨O2, w2⟩ := (by obtain ⟨fuel, hf⟩ := h2; exact open_ops hf : ∃ z : Nat → OpA, OpsAt W a2 len2 z)
  clear hA0 hval0
  refine (walk W a0 len0 cap0 z0 a1 a2 len2 cap2 O2 w0 c0 w1 w2 c2 c3).mono fun e W' ⟨he, bel⟩ => ?_
  subst he
  exact ⟨_, rfl, _, _, _, [], _, [], hW', trodAll_mk1 (shut_bool Try.underlying4 _), (trodAll_cons_mk (Below.trod laidOut (by kernel_rfl) (of_decide_eq_true (by kernel_rfl)) k0 bel lt0) (trodAll_cons_mk (shut_int Try.underlying3 w1) (trodAll_cons_mk (Below.trod laidOut (by kernel_rfl) (of_decide_eq_true (by kernel_rfl)) k2 bel lt2) trodAll_mk0))), rfl, bel.frame _, fun h => by cases h⟩

theorem over : Rows.sealPlaysRow.holds Try.pinned (OpenSpec.ofChange Rows.sealPlaysSpec) :=
  OpenClaim.holds_of_wide 3 Try.f3 rfl rfl rfl rfl rfl rfl rfl ⟨rfl, rfl, rfl, rfl, rfl⟩ rfl rfl rfl rfl rfl (by kernel_rfl) Try.func3 (by kernel_rfl)
    (of_decide_eq_true (by kernel_rfl)) (by unfold Func.isWrapper; first | (rw [if_pos (by decide +kernel)]; kernel_rfl) | (rw [if_neg (by decide +kernel)]; exact ⟨rfl, rfl⟩))
    (fun os started H enc _ => lifted os started H enc)

theorem proved : Rows.SealPlaysSaid := over
#print axioms proved
end Go.Proofs.Ytmchjnmmeankgaa.sealPlays
namespace Go.Proofs.Ytmchjnmmeankgaa
theorem sealPlays_holds : Rows.SealPlaysSaid := sealPlays.proved
#print axioms sealPlays_holds
end Go.Proofs.Ytmchjnmmeankgaa
