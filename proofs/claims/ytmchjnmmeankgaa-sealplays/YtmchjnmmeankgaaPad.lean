/- Contracts of seal.New, Length, Plain and Pad. -/
import Derived.Test.YtmchjnmmeankgaaOrc
namespace Go.Proofs.Ytmchjnmmeankgaa.st
open Go.ChangeShapes Go.WideShapes Go.ChangeAt Go.RowKit Go.Proofs.Ytmchjnmmeankgaa.hp Go.Proofs.Ytmchjnmmeankgaa.dg
set_option linter.unusedVariables false

/-- A slice with a capacity that may be. -/
def Capd (v : Value) : Prop := ∃ a l c, v = .slice a l c ∧ l ≤ c ∧ c ≤ maxLen

theorem New.capd {w w' : World} {zs : List Int} {v : Value} (h : New w zs v w') : Capd v := by
  obtain ⟨a, c, hv⟩ := h.shape
  exact ⟨a, _, c, hv, cap_ge h.1 hv, cap_le h.1 hv⟩

theorem New.behind {w w1 w2 : World} {zs : List Int} {v : Value} (h : New w1 zs v w2) (k : Chg no w w1) : New w zs v w2 := ⟨owns_base h.1 k.size, k.then h.2⟩

/-- What a call on an object with the footprint F leaves: the object, in F and in new blocks; bytes in new memory of which the object has nothing. -/
def Fine (A : World → (Nat → Prop) → Prop) (w : World) (F : Nat → Prop) (v : Value) (xs : List Value) (w' : World) : Prop :=
  ∃ F', A w' F' ∧ (∀ k, F' k → (F k ∨ w.heap.size ≤ k) ∧ k < w'.heap.size) ∧ Lies (fun k => w.heap.size ≤ k ∧ k < w'.heap.size ∧ ¬ F' k) w' v xs ∧ Chg F w w'

/-- New bytes behind a call on the object. -/
theorem fine_new {A : World → (Nat → Prop) → Prop} {w w1 w2 : World} {F F' : Nat → Prop} {v : Value} {zs : List Int} (h1 : A w2 F') (hF : ∀ k, F' k → (F k ∨ w.heap.size ≤ k) ∧ k < w1.heap.size) (c : Chg F w w1) (hN : New w1 zs v w2) : Fine A w F v (zs.map (Value.int .u8)) w2 := by
  have s1 := c.size
  have s2 := hN.2.size
  refine ⟨F', h1, fun k hk => ⟨(hF k hk).1, by have := (hF k hk).2; omega⟩, hN.lies.mono (fun k hk => ⟨by omega, hk.2, fun e => by have := (hF k e).2; omega⟩), c.trans hN.2 (fun _ h => h.elim)⟩

theorem length_any {w : World} {p q : Nat} {F : Nat → Prop} {S : OS} (h : Orc p q S w F) :
    Calls Try.prog 24 #[.pointer (some ⟨p, 0, none⟩)] w fun e w' => e = .returned (.int .i64 S.L) ∧ w' = w := by
  obtain ⟨b, tv, pv, kv, I, h⟩ := h
  obtain ⟨c0, c1, c2, c3, f3⟩ := h.cells
  clear h
  go_enter Try.func24, Try.ntmps24
  go_wp2
  go_ret
  exact ⟨rfl, rfl⟩

theorem plain_new {w : World} {p q : Nat} {F : Nat → Prop} {S : OS} (h : Orc p q S w F) (hp : S.pl.length ≤ 100000000) :
    Calls Try.prog 25 #[.pointer (some ⟨p, 0, none⟩)] w fun e w' => ∃ v, e = .returned v ∧ New w S.pl v w' := by
  obtain ⟨b, tv, pv, kv, I, h⟩ := h
  obtain ⟨c0, c1, c2, c3, f3⟩ := h.cells
  have HC := clone_new pv S.pl (fun _ => True) w (Lies.of_owns h.pln (fun _ _ => trivial)) hp
  obtain ⟨a, c, rfl⟩ := owns_shape h.pln
  clear h
  go_enter Try.func25, Try.ntmps25
  go_wp2_with fail
  refine HC.mono ?_
  rintro e w1 ⟨v1, rfl, N1⟩
  obtain ⟨g, cg, rfl⟩ := N1.shape
  have HN : Hid (New w S.pl (.slice g S.pl.length cg) w1) := N1
  clear HC N1
  go_wp2
  go_ret
  exact ⟨_, rfl, HN.out⟩

/-- A nonce is asked for. -/
def OS.ask (S : OS) (n : Int × Int) : OS := { S with ks := if n ∈ S.ks then S.ks else S.ks ++ [n] }

/-- A nonce's pad, where it has one. -/
def OS.padOf (S : OS) (n : Int × Int) : List Int := S.pad (S.ks.idxOf n)

theorem OS.padOf_length (S : OS) (n : Int × Int) : (S.padOf n).length = S.L := S.pad_length _

theorem OS.ask_in {S : OS} {n : Int × Int} (h : n ∈ S.ks) : S.ask n = S := by
  unfold OS.ask
  rw [if_pos h]

theorem OS.ask_out {S : OS} {n : Int × Int} (h : n ∉ S.ks) : S.ask n = { S with ks := S.ks ++ [n] } := by
  unfold OS.ask
  rw [if_neg h]

theorem idx_new {l : List (Int × Int)} {n : Int × Int} (h : n ∉ l) : (l ++ [n]).idxOf n = l.length := by
  induction l with
  | nil => simp
  | cons x l ih =>
    simp only [List.mem_cons, not_or] at h
    rw [List.cons_append, List.idxOf_cons, ih h.2]
    rw [Bool.cond_eq_ite, if_neg]
    · simp
    · simp
      exact fun e => h.1 e.symm

/-- The entry of a nonce that has a pad. -/
theorem OrcAt.entry {w : World} {p q b : Nat} {tv pv : Value} {kv : List ((Int × Int) × Value)} {I F : Nat → Prop} {S : OS} (h : OrcAt w p q b tv pv kv I F S) {n : Int × Int} (hn : n ∈ S.ks) :
    ∃ v, (n, v) ∈ kv ∧ Lies I w v ((S.padOf n).map (Value.int .u8)) := by
  have hi : S.ks.idxOf n < S.ks.length := List.idxOf_lt_length_iff.2 hn
  have hg : S.ks[S.ks.idxOf n]? = some n := by
    rw [List.getElem?_eq_getElem hi]
    simp
  rw [← h.keys, List.getElem?_map, h.keys] at hg
  obtain ⟨x, hx, hxn⟩ := Option.map_eq_some_iff.1 hg
  obtain ⟨m, v⟩ := x
  simp only at hxn
  subst hxn
  exact ⟨v, List.mem_of_getElem? hx, h.pads _ _ hx⟩

theorem pad_old {w : World} {p q : Nat} {F : Nat → Prop} {S : OS} (h : Orc p q S w F) (hok : S.Ok) (g c : Int) (hn : Fits (g, c)) (hk : (g, c) ∈ S.ks) :
    Calls Try.prog 19 #[.pointer (some ⟨p, 0, none⟩), nv g c] w fun e w' => ∃ v, e = .returned v ∧ New w (S.padOf (g, c)) v w' := by
  have hbox : Chg no w (w.alloc (.cells #[.int .i64 g, .int .i64 c] 40)) := (Chg.refl no w).alloc _
  have HK := known_any (h.chg hbox (fun _ _ h => h)) g c hn
  rw [show S.knows (g, c) = true from decide_eq_true hk] at HK
  have hlen : (S.padOf (g, c)).length = S.L := S.padOf_length _
  have hl2 := hok.l2
  have HH : Hid (Orc p q S w F) := h
  have hbx : (w.alloc (.cells #[.int .i64 g, .int .i64 c] 40)).heap[w.heap.size]? = some (.cells #[.int .i64 g, .int .i64 c] 40 (0, 0)) := heap_alloc_new _ _
  have hpl : p < w.heap.size := by
    obtain ⟨b, tv, pv, kv, I, h⟩ := h
    exact h.lt p h.fp
  have HB : Hid ((w.alloc (.cells #[.int .i64 g, .int .i64 c] 40)).heap[w.heap.size]? = some (.cells #[.int .i64 g, .int .i64 c] 40 (0, 0))) := hbx
  clear h hbox hbx
  go_enter Try.func19, Try.ntmps19
  go_wp2_with fail
  refine HK.mono ?_
  rintro e w1 ⟨rfl, k1⟩
  have K : Chg no w w1 := ((Chg.refl no w).alloc _).then k1
  obtain ⟨b, tv, pv, kv, I, h0⟩ := HH.out
  have h1 : OrcAt w1.drew p q b tv pv kv I F S := h0.chg K.drew (fun _ _ h => h)
  obtain ⟨c0, c1, c2, c3, f3⟩ := (h0.chg K (fun _ _ h => h)).cells
  have gb := k1.heap HB.out id
  obtain ⟨a0, b0⟩ := row_cell (xs := [_, _]) gb 0 _ rfl
  obtain ⟨a1, b1⟩ := row_cell (xs := [_, _]) gb 1 _ rfl
  obtain ⟨v, hv, hL⟩ := h1.entry hk
  have hlook := h1.tab.look key40 Try.underlying55 hv false
  simp only [Bool.false_eq_true, if_false] at hlook
  have HC := clone_new v (S.padOf (g, c)) I w1.drew hL (by omega)
  obtain ⟨va, vc, rfl, _⟩ := hL.slice
  simp only [List.length_map, hlen] at hlook HC
  have KD : Chg no w w1.drew := K.drew
  have hsz : w1.drew.heap.size = w1.heap.size := rfl
  clear HK h0 h1 hv hL k1 gb HB
  go_wp2_with fail
  go_region_with (go_at_call 30; refine HC.mono ?_; rintro e w3 ⟨v3, rfl, N3⟩; obtain ⟨g3, c3', rfl⟩ := N3.shape; rw [hlen] at N3; have HN3 : Hid _ := N3; clear N3)
  all_goals go_wp2
  all_goals go_ret
  all_goals exact ⟨_, rfl, New.behind HN3.out KD⟩

/-- A pad more. -/
theorem OrcAt.add {w w3 w4 : World} {p q b : Nat} {tv pv : Value} {kv : List ((Int × Int) × Value)} {I F : Nat → Prop} {S : OS} (h : OrcAt w p q b tv pv kv I F S) {n : Int × Int} (hn : n ∉ S.ks) {e : Ending}
    (D : Drawn w q tv (S.ks.length * S.L) S.L S.zs e w3) (hT : Tab Try.prog 40 w4 b (kv ++ [(n, .slice (some ⟨w.heap.size, 0, none⟩) S.L S.L)])) (c : Chg (fun j => j = b) w3 w4) :
    OrcAt w4 p q b tv pv (kv ++ [(n, .slice (some ⟨w.heap.size, 0, none⟩) S.L S.L)]) (fun k => I k ∨ k = w.heap.size) (fun k => F k ∨ k = w.heap.size) (S.ask n) ∧ Chg F w w4 := by
  obtain ⟨_, d1, d2, d3⟩ := D
  rw [OS.ask_out hn]
  have hbq : b ≠ q := h.tab.ne h.tpe.blk
  have hbp : b ≠ p := h.tab.ne h.blk
  have hpl := h.lt p h.fp
  have hql := h.lt q h.fq
  have hbl := h.lt b h.fb
  have C : Chg F w w4 := (d3.mono (G := F) (fun x hx => .inl (by rw [hx]; exact h.fq))).trans c (fun x hx => .inl (by rw [hx]; exact h.fb))
  have C2 : Chg (fun k => k = q ∨ k = b) w w4 := (d3.mono (G := fun k => k = q ∨ k = b) (fun x hx => .inl (.inl hx))).trans c (fun x hx => .inl (.inr hx))
  have g4 : w4.heap[w.heap.size]? = some (.cells ((padsOf S.zs (S.ks.length * S.L) S.L).map (Value.int .u8)).toArray 5 (0, 0)) := c.heap d1 (by omega)
  have hlt4 := lt_of_block g4
  have hkl : kv.length = S.ks.length := by rw [← h.keys, List.length_map]
  refine ⟨⟨C2.heap h.blk (by have := h.pq; omega), ?_, hT, by simp [h.keys], ?_, C2.owns h.pln (fun k hk => by have := h.vI k hk; omega), fun k hk => .inl (h.tI k hk), ?_, ?_, ?_, ?_, h.pq, ?_, .inl h.fp, .inl h.fq, .inl h.fb, ?_⟩, C⟩
  · have := d2.chg c (by omega) (fun k hk e => h.bI (by rw [← e]; exact h.tI k hk))
    have e1 : (S.ks ++ [n]).length * S.L = S.ks.length * S.L + S.L := by simp [Nat.add_mul]
    show Tpe w4 q tv ((S.ks ++ [n]).length * S.L) S.zs
    rw [e1]
    exact this
  · intro i x hx
    rw [List.getElem?_append] at hx
    split at hx
    · exact ((h.pads i x hx).chg C2 (fun k hk e => by rcases e with rfl | rfl; exact h.qI hk; exact h.bI hk)).mono (fun k hk => .inl hk)
    · have hi : i = kv.length := by
        have := (List.getElem?_eq_some_iff.1 hx).1
        simp at this
        omega
      subst hi
      simp at hx
      subst hx
      have := lies_block g4 S.L
      simp only [List.length_map, padsOf_length] at this
      rw [hkl]
      exact this.mono (fun k hk => .inr hk)
  · intro e
    rcases e with e | e
    · exact h.pI e
    · omega
  · intro e
    rcases e with e | e
    · exact h.qI e
    · omega
  · intro e
    rcases e with e | e
    · exact h.bI e
    · omega
  · intro k hk
    obtain ⟨v1, v2, v3, v4, v5⟩ := h.vI k hk
    have := h.lt k v5
    exact ⟨fun e => by rcases e with e | e; exact v1 e; omega, v2, v3, v4, .inl v5⟩
  · intro k hk
    rcases hk with hk | hk
    · exact .inl (h.fI k hk)
    · exact .inr hk
  · intro k hk
    rcases hk with hk | hk
    · exact Nat.lt_of_lt_of_le (h.lt k hk) C.size
    · omega

/-- A store at a new key, as one step of a region that draws. -/
theorem step_mapUpdate_tab {P : Program} {ops : Array Oper} {o : Oper} {a : Act} {w : World} {K : Act → World → Prop} {Q : Exit → Act → World → Prop} {E : Prop} (hg : o.guard = none) (m x v : Operand) (t : TypeId) (hop : o.op = Op.mapUpdate t m x v)
    (k e : TypeId) (KK : Maps.Keyed P k) (ht : P.underlying t = some (.map k e)) (b : Nat) (kv : List ((Int × Int) × Value)) (hm : a.eval m = .map (some b)) (hT : Tab P k w b kv)
    (y : Int × Int) (val : Value) (hx : a.eval x = kvv y) (hv : a.eval v = val) (hk : KeyOk P k y) (hn : y ∉ kv.map (·.1))
    (hK : ∀ w', Tab P k w' b (kv ++ [(y, val)]) → Chg (fun j => j = b) w w' → w'.heap.size = w.heap.size → K (a.put o.dst undef) w') :
    if Region.wanted o (yielded ops a.tmps) = true then Oper.wp P o a w K Q else E := by
  have hw : Region.wanted o (yielded ops a.tmps) = true := by simp [Region.wanted, hg]
  rw [if_pos hw]
  obtain ⟨w', hrun, r1, r2, r3⟩ := hT.add KK ht hk hn val
  unfold Oper.wp
  simp only [execOp, hop, hm, hx, hv]
  simp [hrun, Result.andThen]
  exact hK w' r1 r2 r3

set_option maxRecDepth 100000 in
set_option maxHeartbeats 4000000 in
theorem pad_new {w : World} {p q : Nat} {F : Nat → Prop} {S : OS} (h : Orc p q S w F) (hok : S.Ok) (g c : Int) (hn : Fits (g, c)) (hk : (g, c) ∉ S.ks) :
    Calls Try.prog 19 #[.pointer (some ⟨p, 0, none⟩), nv g c] w fun e w' => ∃ v, e = .returned v ∧ Fine (Orc p q (S.ask (g, c))) w F v (((S.ask (g, c)).padOf (g, c)).map (Value.int .u8)) w' := by
  obtain ⟨ZP, hZP⟩ : ∃ ZP, (S.ask (g, c)).padOf (g, c) = ZP := ⟨_, rfl⟩
  have hAL : (S.ask (g, c)).L = S.L := by rw [OS.ask_out hk]
  have HPL : Hid (ZP.length = S.L) := by
    have := ((S.ask (g, c)).padOf_length (g, c)).trans hAL
    rw [hZP] at this
    exact this
  have HZP : Hid ((S.ask (g, c)).padOf (g, c) = ZP) := hZP
  rw [hZP]
  clear hZP hAL
  have hbox : Chg no w (w.alloc (.cells #[.int .i64 g, .int .i64 c] 40)) := (Chg.refl no w).alloc _
  have HK := known_any (h.chg hbox (fun _ _ h => h)) g c hn
  rw [show S.knows (g, c) = false from decide_eq_false hk] at HK
  have HH : Hid (Orc p q S w F) := h
  have hpl : p < w.heap.size := by
    obtain ⟨b, tv, pv, kv, I, h⟩ := h
    exact h.lt p h.fp
  have HB : Hid ((w.alloc (.cells #[.int .i64 g, .int .i64 c] 40)).heap[w.heap.size]? = some (.cells #[.int .i64 g, .int .i64 c] 40 (0, 0))) := heap_alloc_new _ _
  clear h hbox
  go_enter Try.func19, Try.ntmps19
  go_wp2_with fail
  refine HK.mono ?_
  rintro e w1 ⟨rfl, k1⟩
  have K : Chg no w w1 := ((Chg.refl no w).alloc _).then k1
  have gb := k1.heap HB.out id
  obtain ⟨b, tv, pv, kv, I, h0⟩ := HH.out
  have h1 : OrcAt w1 p q b tv pv kv I F S := h0.chg K (fun _ _ h => h)
  have h2 : OrcAt w1.drew p q b tv pv kv I F S := h0.chg K.drew (fun _ _ h => h)
  obtain ⟨c0, c1, c2, c3, f3⟩ := h1.cells
  obtain ⟨a0, b0⟩ := row_cell (xs := [_, _]) gb 0 _ rfl
  obtain ⟨a1, b1⟩ := row_cell (xs := [_, _]) gb 1 _ rfl
  have hd : S.ks.length * S.L ≤ 100000000 := by
    have h1 := hok.k
    have h2 := hok.l2
    have := Nat.mul_le_mul h1 h2
    omega
  have HD := pads_draw h2.tpe hd S.L hok.l1 (by have := hok.l2; omega)
  have hz1 : w1.drew.heap.size = w1.heap.size := rfl
  have hK1 := K.size
  have hbl1 := lt_of_block gb
  have hwl : w.heap.size < w1.heap.size := hbl1
  have HE : Hid (∀ e3 w3, Drawn w1.drew q tv (S.ks.length * S.L) S.L S.zs e3 w3 → w3.cell? ⟨p, 2, none⟩ = some (.map (some b)) ∧ w3.cell? ⟨w.heap.size, 0, none⟩ = some (.int .i64 g) ∧ w3.cell? ⟨w.heap.size, 1, none⟩ = some (.int .i64 c) ∧ p < w3.heap.size ∧ w.heap.size < w3.heap.size ∧
      Tab Try.prog 40 w3 b kv ∧ ∀ w4, Tab Try.prog 40 w4 b (kv ++ [((g, c), .slice (some ⟨w1.heap.size, 0, none⟩) S.L S.L)]) → Chg (fun j => j = b) w3 w4 → w4.heap.size = w3.heap.size →
        w4.cell? ⟨p, 2, none⟩ = some (.map (some b)) ∧ w4.cell? ⟨w.heap.size, 0, none⟩ = some (.int .i64 g) ∧ w4.cell? ⟨w.heap.size, 1, none⟩ = some (.int .i64 c) ∧ p < w4.heap.size ∧ w.heap.size < w4.heap.size ∧
        Fine (Orc p q (S.ask (g, c))) w F (.slice none 0 0) [] w4 ∧ Lies (fun _ => True) w4 (.slice (some ⟨w1.heap.size, 0, none⟩) S.L S.L) (ZP.map (Value.int .u8)) ∧ Tab Try.prog 40 w4.drew b (kv ++ [((g, c), .slice (some ⟨w1.heap.size, 0, none⟩) S.L S.L)])) := by
    intro e3 w3 D
    have hD := D
    obtain ⟨_, d1, d2, d3⟩ := D
    have hbq : b ≠ q := h1.tab.ne h1.tpe.blk
    have hbp : b ≠ p := h1.tab.ne h1.blk
    have hpq := h1.pq
    have hwq : w.heap.size ≠ q := by have := h0.lt q h0.fq; omega
    have hwb : w.heap.size ≠ b := by have := h0.lt b h0.fb; omega
    have s3 := d3.size
    refine ⟨d3.cell c2 (by simpa using hpq), d3.cell a0 (by simpa using hwq), d3.cell a1 (by simpa using hwq), by omega, by omega, h2.tab.chg d3 (by omega), ?_⟩
    intro w4 hT c4 s4
    obtain ⟨X, CX⟩ := h2.add (n := (g, c)) hk hD hT c4
    obtain ⟨y0, y1, y2, y3, y4⟩ := X.cells
    refine ⟨y2, c4.cell (d3.cell a0 (by simpa using hwq)) (by simpa using hwb), c4.cell (d3.cell a1 (by simpa using hwq)) (by simpa using hwb), by omega, by omega, ⟨_, ⟨_, _, _, _, _, X⟩, ?_, .inl ⟨rfl, rfl⟩, (K.drew.of_no F).then CX⟩, ?_, hT⟩
    · intro k hk
      rcases hk with hk | hk
      · have := h0.lt k hk
        exact ⟨.inl hk, by omega⟩
      · have hk2 : k = w1.heap.size := hk
        have := lt_of_block d1
        exact ⟨.inr (by omega), by omega⟩
    · have hm : (g, c) ∈ (S.ask (g, c)).ks := by rw [OS.ask_out hk]; simp
      obtain ⟨v, hv, hL⟩ := X.entry hm
      obtain ⟨es, clock, _, he, _, hnd⟩ := hT
      have := nodup_same hnd hv (List.mem_append.2 (.inr (List.mem_singleton.2 rfl))) rfl
      cases this
      rw [HZP.out] at hL
      exact hL.mono (fun _ _ => trivial)
  have HKY : Hid (KeyOk Try.prog 40 (g, c) ∧ (g, c) ∉ kv.map (·.1)) := ⟨keyOk40 hn w, by rw [h0.keys]; exact hk⟩
  have hl4 : S.L ≤ 4000 := hok.l2
  clear HK h0 h1 h2 gb HB HH HZP hd hk k1
  go_upto_region 2 with fail
  go_cut [] from 9 to 22 (fun wc => wc.cell? ⟨p, 2, none⟩ = some (.map (some b)) ∧ wc.cell? ⟨w.heap.size, 0, none⟩ = some (.int .i64 g) ∧ wc.cell? ⟨w.heap.size, 1, none⟩ = some (.int .i64 c) ∧ p < wc.heap.size ∧ w.heap.size < wc.heap.size ∧
        Fine (Orc p q (S.ask (g, c))) w F (.slice none 0 0) [] wc ∧ Lies (fun _ => True) wc (.slice (some ⟨w1.heap.size, 0, none⟩) S.L S.L) (ZP.map (Value.int .u8)) ∧ Tab Try.prog 40 wc.drew b (kv ++ [((g, c), .slice (some ⟨w1.heap.size, 0, none⟩) S.L S.L)]))
  case first =>
    go_region_law (refine step_call rfl 37 #[.pointer (some ⟨q, 0, none⟩), .int .i64 S.L] (by go_simp) HD ?_; rintro e w3 D3; obtain ⟨x1, x2, x3, x4, x5, x6, x7⟩ := HE.out e w3 D3; obtain ⟨w4, hrun4, t4, k4, s4⟩ := x6.add key40 Try.underlying55 HKY.out.1 HKY.out.2 (.slice (some ⟨w1.heap.size, 0, none⟩) S.L S.L); have HY : Hid _ := x7 w4 t4 k4 s4; clear t4 x7 x6; obtain ⟨rfl, _⟩ := D3; simp only [kvv] at hrun4; refine ⟨_, rfl, ?_⟩)
    all_goals (go_wp2; go_meet; case rel => exact HY.out)
  case rest =>
    obtain ⟨y1, y2, y3, y4, y5, y6, y7, y8⟩ := hcut
    have hlook : (Instr.lookup 55 (.map (some b)) (.agg #[.int .i64 g, .int .i64 c]) false).run Try.prog wc.drew = .ok (.slice (some ⟨w1.heap.size, 0, none⟩) S.L S.L) wc.drew := by
      have := y8.look key40 Try.underlying55 (y := ((g, c), .slice (some ⟨w1.heap.size, 0, none⟩) S.L S.L)) (List.mem_append.2 (.inr (List.mem_singleton.2 rfl))) false
      simpa using this
    have HC := clone_new (.slice (some ⟨w1.heap.size, 0, none⟩) S.L S.L) ZP _ wc.drew (y7.chg ((Chg.refl no wc).drew) (fun _ _ h => h)) (by have := HPL.out; omega)
    have HF : Hid _ := y6
    clear HD HE y6 y7 y8 HKY K
    go_wp2_with fail
    go_region_with (go_at_call 30; refine HC.mono ?_; rintro e w6 ⟨v6, rfl, N6⟩; obtain ⟨g6, c6', rfl⟩ := N6.shape; have HN6 : Hid _ := N6; clear N6)
    all_goals go_wp2
    all_goals go_ret
    all_goals
      refine ⟨_, rfl, ?_⟩
      obtain ⟨F', hA, hF', _, hC⟩ := HF.out
      exact fine_new (hA.chg (((Chg.refl no wc).drew).then (HN6.out.2)) (fun _ _ h => h)) hF' hC (New.behind HN6.out ((Chg.refl no wc).drew))

end Go.Proofs.Ytmchjnmmeankgaa.st
