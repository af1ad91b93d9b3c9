/- The document's oracle in memory; contracts of its Known and Pad. -/
import Derived.Test.YtmchjnmmeankgaaOpn
namespace Go.Proofs.Ytmchjnmmeankgaa.st
open Go.ChangeShapes Go.WideShapes Go.ChangeAt Go.RowKit Go.Proofs.Ytmchjnmmeankgaa.hp Go.Proofs.Ytmchjnmmeankgaa.dg
set_option linter.unusedVariables false

/-- The keys and their numbers, from k on. -/
def numbered : List (Int × Int) → Nat → List ((Int × Int) × Value)
  | [], _ => []
  | n :: l, k => (n, .int .i64 (k : Int)) :: numbered l (k + 1)

theorem numbered_keys (l : List (Int × Int)) (k : Nat) : (numbered l k).map (·.1) = l := by
  induction l generalizing k with
  | nil => rfl
  | cons n l ih => simp [numbered, ih]

theorem numbered_append (l : List (Int × Int)) (n : Int × Int) (k : Nat) : numbered (l ++ [n]) k = numbered l k ++ [(n, .int .i64 ((k + l.length : Nat) : Int))] := by
  induction l generalizing k with
  | nil => simp [numbered]
  | cons m l ih =>
    simp only [List.cons_append, numbered, ih, List.length_cons]
    rw [show k + 1 + l.length = k + (l.length + 1) by omega]

theorem numbered_mem (l : List (Int × Int)) (n : Int × Int) (k : Nat) (h : n ∈ l) : (n, .int .i64 ((k + l.idxOf n : Nat) : Int)) ∈ numbered l k := by
  induction l generalizing k with
  | nil => simp at h
  | cons m l ih =>
    rw [numbered, List.idxOf_cons]
    by_cases hm : m = n
    · subst hm
      simp
    · have hb : (m == n) = false := by simpa using hm
      rw [hb]
      simp only [cond_false]
      have hn : n ∈ l := by
        rcases List.mem_cons.1 h with e | e
        · exact absurd e.symm hm
        · exact e
      have := ih (k + 1) hn
      rw [show k + 1 + l.idxOf n = k + (l.idxOf n + 1) by omega] at this
      exact List.mem_cons_of_mem _ this

/-- The document's oracle at block p, its tape at block q; the tape's bytes lie in the blocks of J. -/
structure RorcAt (J : Nat → Prop) (w : World) (p q b : Nat) (tv dv pv : Value) (vs : List Value) (I F : Nat → Prop) (S : OS) : Prop where
  blk : w.heap[p]? = some (.cells #[.pointer (some ⟨q, 0, none⟩), .int .i64 S.L, dv, .map (some b), pv] 64 (0, 0))
  tpe : Rpe J w q tv (S.ks.length * S.L) S.zs
  tab : Tab Try.prog 46 w b (numbered S.ks 0)
  row : w.ownsRow 0 22 1 dv S.ks.length vs
  pads : ∀ i v, vs[i]? = some v → Lies I w v ((S.pad i).map (Value.int .u8))
  pln : w.ownsRow 0 5 1 pv S.pl.length (S.pl.map (Value.int .u8))
  pI : ¬ I p
  qI : ¬ I q
  bI : ¬ I b
  vI : ∀ k, pv.ownBlock = some k → ¬ I k ∧ k ≠ p ∧ k ≠ q ∧ k ≠ b ∧ F k
  dI : ∀ k, dv.ownBlock = some k → ¬ I k ∧ k ≠ p ∧ k ≠ q ∧ k ≠ b ∧ F k ∧ pv.ownBlock ≠ some k
  pq : p ≠ q
  fI : ∀ k, I k → F k
  fp : F p
  fq : F q
  fb : F b
  fj : ∀ k, J k → ¬ F k
  jl : ∀ k, J k → k < w.heap.size
  lt : ∀ k, F k → k < w.heap.size

def Rorc (J : Nat → Prop) (p q : Nat) (S : OS) (w : World) (F : Nat → Prop) : Prop := ∃ b tv dv pv vs I, RorcAt J w p q b tv dv pv vs I F S

theorem RorcAt.chg {J : Nat → Prop} {w w' : World} {p q b : Nat} {tv dv pv : Value} {vs : List Value} {I F G : Nat → Prop} {S : OS} (h : RorcAt J w p q b tv dv pv vs I F S) (c : Chg G w w') (hn : ∀ k, F k → ¬ G k) (hj : ∀ k, J k → ¬ G k) : RorcAt J w' p q b tv dv pv vs I F S where
  blk := c.heap h.blk (hn _ h.fp)
  tpe := h.tpe.chg c (hn _ h.fq) hj
  tab := h.tab.chg c (hn _ h.fb)
  row := c.owns h.row (fun k hk => hn _ (h.dI k hk).2.2.2.2.1)
  pads := fun i x hx => (h.pads i x hx).chg c (fun k hk => hn _ (h.fI k hk))
  pln := c.owns h.pln (fun k hk => hn _ (h.vI k hk).2.2.2.2)
  pI := h.pI
  qI := h.qI
  bI := h.bI
  vI := h.vI
  dI := h.dI
  pq := h.pq
  fI := h.fI
  fp := h.fp
  fq := h.fq
  fb := h.fb
  fj := h.fj
  jl := fun k hk => Nat.lt_of_lt_of_le (h.jl k hk) c.size
  lt := fun k hk => Nat.lt_of_lt_of_le (h.lt k hk) c.size

theorem Rorc.chg {J : Nat → Prop} {w w' : World} {p q : Nat} {F G : Nat → Prop} {S : OS} (h : Rorc J p q S w F) (c : Chg G w w') (hn : ∀ k, F k → ¬ G k) (hj : ∀ k, J k → ¬ G k) : Rorc J p q S w' F := by
  obtain ⟨b, tv, dv, pv, vs, I, h⟩ := h
  exact ⟨b, tv, dv, pv, vs, I, h.chg c hn hj⟩

theorem Rorc.same {J : Nat → Prop} {w w' : World} {p q : Nat} {F : Nat → Prop} {S : OS} (h : Rorc J p q S w F) (c : Chg no w w') : Rorc J p q S w' F := h.chg c (fun _ _ h => h) (fun _ _ h => h)

theorem RorcAt.cells {J : Nat → Prop} {w : World} {p q b : Nat} {tv dv pv : Value} {vs : List Value} {I F : Nat → Prop} {S : OS} (h : RorcAt J w p q b tv dv pv vs I F S) :
    w.cell? ⟨p, 0, none⟩ = some (.pointer (some ⟨q, 0, none⟩)) ∧ w.cell? ⟨p, 1, none⟩ = some (.int .i64 S.L) ∧ w.cell? ⟨p, 2, none⟩ = some dv ∧ w.cell? ⟨p, 3, none⟩ = some (.map (some b)) ∧ w.cell? ⟨p, 4, none⟩ = some pv ∧ w.frozen? ⟨p, 2, none⟩ = false ∧ w.frozen? ⟨p, 4, none⟩ = false := by
  have h := h.blk
  simp [World.cell?, World.frozen?, h]

theorem zero3 (w : World) : (zeroValue 3).run Try.prog w = .ok (.int .i64 0) w := by kernel_rfl

/-- What a look-up tells. -/
theorem RorcAt.look {J : Nat → Prop} {w : World} {p q b : Nat} {tv dv pv : Value} {vs : List Value} {I F : Nat → Prop} {S : OS} (h : RorcAt J w p q b tv dv pv vs I F S) {n : Int × Int} (hn : Fits n) :
    (Instr.lookup 62 (.map (some b)) (nv n.1 n.2) true).run Try.prog w = .ok (.tuple #[.int .i64 (if n ∈ S.ks then (S.ks.idxOf n : Int) else 0), .bool (S.knows n)]) w := by
  by_cases hk : n ∈ S.ks
  · have hm := numbered_mem S.ks n 0 hk
    rw [Nat.zero_add] at hm
    have := h.tab.look key46 Try.underlying62 hm true
    rw [show S.knows n = true from decide_eq_true hk, if_pos hk]
    exact this
  · have hk2 : n ∉ (numbered S.ks 0).map (·.1) := by rw [numbered_keys]; exact hk
    have := h.tab.lack key46 Try.underlying62 (zero3 w) (keyOk46 hn w) hk2 true
    rw [show S.knows n = false from decide_eq_false hk, if_neg hk]
    exact this

theorem rknown_any {J : Nat → Prop} {w : World} {p q : Nat} {F : Nat → Prop} {S : OS} (h : Rorc J p q S w F) (g c : Int) (hn : Fits (g, c)) :
    Calls Try.prog 22 #[.pointer (some ⟨p, 0, none⟩), nv g c] w fun e w' => e = .returned (.bool (S.knows (g, c))) ∧ Chg no w w' := by
  obtain ⟨b, tv, dv, pv, vs, I, h⟩ := h
  have h1 := h.chg ((Chg.refl no w).alloc (.cells #[.int .i64 g, .int .i64 c] 46)) (fun _ _ h => h) (fun _ _ h => h)
  have h2 := h1.chg ((Chg.refl no _).drew) (fun _ _ h => h) (fun _ _ h => h)
  obtain ⟨c0, c1, c2, c3, c4, f2, f4⟩ := h1.cells
  have hv := h2.look hn
  obtain ⟨B, hB⟩ : ∃ B, S.knows (g, c) = B := ⟨_, rfl⟩
  obtain ⟨M, hM⟩ : ∃ M, (if (g, c) ∈ S.ks then (S.ks.idxOf (g, c) : Int) else 0) = M := ⟨_, rfl⟩
  rw [hB] at hv ⊢
  rw [hM] at hv
  have hpl := h.lt p h.fp
  clear h h1 h2 hB hM
  go_enter Try.func22, Try.ntmps22
  go_wp2_with fail
  go_region
  all_goals go_wp2
  all_goals go_ret
  all_goals exact ⟨rfl, ((Chg.refl no w).alloc _).drew⟩

/-- The pad of a nonce that has one. -/
theorem RorcAt.entry {J : Nat → Prop} {w : World} {p q b : Nat} {tv dv pv : Value} {vs : List Value} {I F : Nat → Prop} {S : OS} (h : RorcAt J w p q b tv dv pv vs I F S) {n : Int × Int} (hn : n ∈ S.ks) :
    ∃ a c x y, dv = .slice (some ⟨a, 0, none⟩) S.ks.length c ∧ S.ks.idxOf n < S.ks.length ∧ w.cell? ⟨a, S.ks.idxOf n, none⟩ = some (.slice x S.L y) ∧ Lies I w (.slice x S.L y) ((S.padOf n).map (Value.int .u8)) := by
  have hi : S.ks.idxOf n < S.ks.length := List.idxOf_lt_length_iff.2 hn
  have hl := h.row.1
  have hg : vs[S.ks.idxOf n]? = some (vs[S.ks.idxOf n]'(by omega)) := List.getElem?_eq_getElem (by omega)
  have hL := h.pads _ _ hg
  obtain ⟨x, y, hv, _⟩ := hL.slice
  rcases h.row.2 with ⟨_, h0⟩ | ⟨a, cap, cur, hdv, _⟩
  · omega
  · have hc := h.row
    rw [hdv] at hc
    have := hc.cellAt (S.ks.idxOf n) (by omega)
    rw [hg, hv] at this
    rw [List.length_map, S.pad_length] at this hv
    rw [hv] at hL
    exact ⟨a, cap, x, y, hdv, hi, this, hL⟩

set_option maxRecDepth 100000 in
set_option maxHeartbeats 2000000 in
theorem rpad_old {J : Nat → Prop} {w : World} {p q : Nat} {F : Nat → Prop} {S : OS} (h : Rorc J p q S w F) (hok : S.Ok) (g c : Int) (hn : Fits (g, c)) (hk : (g, c) ∈ S.ks) :
    Calls Try.prog 20 #[.pointer (some ⟨p, 0, none⟩), nv g c] w fun e w' => ∃ v, e = .returned v ∧ New w (S.padOf (g, c)) v w' := by
  obtain ⟨b, tv, dv, pv, vs, I, h⟩ := h
  have h1 := h.chg ((Chg.refl no w).alloc (.cells #[.int .i64 g, .int .i64 c] 46)) (fun _ _ h => h) (fun _ _ h => h)
  have h2 := h1.chg ((Chg.refl no _).drew) (fun _ _ h => h) (fun _ _ h => h)
  obtain ⟨c0, c1, c2, c3, c4, f2, f4⟩ := h1.cells
  have hv := h2.look hn
  rw [if_pos hk, show S.knows (g, c) = true from decide_eq_true hk] at hv
  obtain ⟨a, cp, x, y, rfl, hi, hcell, hL⟩ := h2.entry hk
  have hlen : (S.padOf (g, c)).length = S.L := S.padOf_length _
  have hl2 := hok.l2
  have hlk := hok.k
  obtain ⟨M, hM⟩ : ∃ M, S.ks.idxOf (g, c) = M := ⟨_, rfl⟩
  rw [hM] at hv hi hcell
  have HC := clone_new
  have HC := copyBytes_any (.slice x S.L y) (S.padOf (g, c)) I _ hL (by omega)
  have hpl := h.lt p h.fp
  have hmi : (M : Int) < S.ks.length := by omega
  have hmk : (S.ks.length : Int) ≤ 1000 := by omega
  have K : Chg no w ((w.alloc (.cells #[.int .i64 g, .int .i64 c] 46)).drew) := ((Chg.refl no w).alloc _).drew
  clear h h1 h2 hM hL hk
  go_enter Try.func20, Try.ntmps20
  go_wp2_with fail
  go_region
  all_goals
    go_wp2_with fail
    refine HC.mono ?_
    rintro e w3 ⟨v3, rfl, N3⟩
    obtain ⟨g3, c3', rfl⟩ := N3.shape
    rw [hlen] at N3
    have HN3 : Hid _ := N3
    clear N3 HC
    go_wp2
    go_ret
    exact ⟨_, rfl, New.behind HN3.out K⟩

end Go.Proofs.Ytmchjnmmeankgaa.st
