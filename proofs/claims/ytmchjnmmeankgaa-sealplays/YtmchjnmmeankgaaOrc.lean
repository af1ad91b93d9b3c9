/- The oracle in memory; contracts of New, Known, Length, Plain. -/
import Derived.Test.YtmchjnmmeankgaaKey
import Derived.Test.YtmchjnmmeankgaaRta
namespace Go.Proofs.Ytmchjnmmeankgaa.st
open Go.ChangeShapes Go.WideShapes Go.ChangeAt Go.RowKit Go.Proofs.Ytmchjnmmeankgaa.hp Go.Proofs.Ytmchjnmmeankgaa.dg
set_option linter.unusedVariables false

/-- An oracle's state: its tape, how long a text is, which nonces have a pad, all texts that were sealed. -/
structure OS where
  zs : List Int
  L : Nat
  ks : List (Int × Int)
  pl : List Int

/-- The i-th pad. -/
def OS.pad (S : OS) (i : Nat) : List Int := padsOf S.zs (i * S.L) S.L

theorem OS.pad_length (S : OS) (i : Nat) : (S.pad i).length = S.L := padsOf_length _ _ _

/-- Sane: a length that may be, not too many pads. -/
structure OS.Ok (S : OS) : Prop where
  l1 : 1 ≤ S.L
  l2 : S.L ≤ 4000
  k : S.ks.length ≤ 1000
  p : S.pl.length ≤ 10000000

/-- The oracle at block p, its tape at block q. -/
structure OrcAt (w : World) (p q b : Nat) (tv pv : Value) (kv : List ((Int × Int) × Value)) (I F : Nat → Prop) (S : OS) : Prop where
  blk : w.heap[p]? = some (.cells #[.pointer (some ⟨q, 0, none⟩), .int .i64 S.L, .map (some b), pv] 57 (0, 0))
  tpe : Tpe w q tv (S.ks.length * S.L) S.zs
  tab : Tab Try.prog 40 w b kv
  keys : kv.map (·.1) = S.ks
  pads : ∀ i x, kv[i]? = some x → Lies I w x.2 ((S.pad i).map (Value.int .u8))
  pln : w.ownsRow 0 5 1 pv S.pl.length (S.pl.map (Value.int .u8))
  tI : ∀ k, tv.ownBlock = some k → I k
  pI : ¬ I p
  qI : ¬ I q
  bI : ¬ I b
  vI : ∀ k, pv.ownBlock = some k → ¬ I k ∧ k ≠ p ∧ k ≠ q ∧ k ≠ b ∧ F k
  pq : p ≠ q
  fI : ∀ k, I k → F k
  fp : F p
  fq : F q
  fb : F b
  lt : ∀ k, F k → k < w.heap.size

def Orc (p q : Nat) (S : OS) (w : World) (F : Nat → Prop) : Prop := ∃ b tv pv kv I, OrcAt w p q b tv pv kv I F S

theorem OrcAt.chg {w w' : World} {p q b : Nat} {tv pv : Value} {kv : List ((Int × Int) × Value)} {I F G : Nat → Prop} {S : OS} (h : OrcAt w p q b tv pv kv I F S) (c : Chg G w w') (hn : ∀ k, F k → ¬ G k) : OrcAt w' p q b tv pv kv I F S where
  blk := c.heap h.blk (hn _ h.fp)
  tpe := h.tpe.chg c (hn _ h.fq) (fun k hk => hn _ (h.fI k (h.tI k hk)))
  tab := h.tab.chg c (hn _ h.fb)
  keys := h.keys
  pads := fun i x hx => (h.pads i x hx).chg c (fun k hk => hn _ (h.fI k hk))
  pln := c.owns h.pln (fun k hk => hn _ (h.vI k hk).2.2.2.2)
  tI := h.tI
  pI := h.pI
  qI := h.qI
  bI := h.bI
  vI := h.vI
  pq := h.pq
  fI := h.fI
  fp := h.fp
  fq := h.fq
  fb := h.fb
  lt := fun k hk => Nat.lt_of_lt_of_le (h.lt k hk) c.size

theorem Orc.chg {w w' : World} {p q : Nat} {F G : Nat → Prop} {S : OS} (h : Orc p q S w F) (c : Chg G w w') (hn : ∀ k, F k → ¬ G k) : Orc p q S w' F := by
  obtain ⟨b, tv, pv, kv, I, h⟩ := h
  exact ⟨b, tv, pv, kv, I, h.chg c hn⟩

theorem OrcAt.cells {w : World} {p q b : Nat} {tv pv : Value} {kv : List ((Int × Int) × Value)} {I F : Nat → Prop} {S : OS} (h : OrcAt w p q b tv pv kv I F S) :
    w.cell? ⟨p, 0, none⟩ = some (.pointer (some ⟨q, 0, none⟩)) ∧ w.cell? ⟨p, 1, none⟩ = some (.int .i64 S.L) ∧ w.cell? ⟨p, 2, none⟩ = some (.map (some b)) ∧ w.cell? ⟨p, 3, none⟩ = some pv ∧ w.frozen? ⟨p, 3, none⟩ = false := by
  have h := h.blk
  simp [World.cell?, World.frozen?, h]

/-- Does the nonce have a pad? -/
def OS.knows (S : OS) (n : Int × Int) : Bool := decide (n ∈ S.ks)

theorem zero22 (w : World) : (zeroValue 22).run Try.prog w = .ok (.slice none 0 0) w := by kernel_rfl

/-- What a look-up tells. -/
theorem OrcAt.look {w : World} {p q b : Nat} {tv pv : Value} {kv : List ((Int × Int) × Value)} {I F : Nat → Prop} {S : OS} (h : OrcAt w p q b tv pv kv I F S) {n : Int × Int} (hn : Fits n) :
    ∃ v, (Instr.lookup 55 (.map (some b)) (nv n.1 n.2) true).run Try.prog w = .ok (.tuple #[v, .bool (S.knows n)]) w := by
  by_cases hk : n ∈ S.ks
  · rw [← h.keys] at hk
    obtain ⟨x, hx, hxn⟩ := List.mem_map.1 hk
    have := h.tab.look key40 Try.underlying55 hx true
    rw [hxn] at this
    refine ⟨x.2, ?_⟩
    rw [show S.knows n = true from decide_eq_true (by rw [← h.keys]; exact hk)]
    exact this
  · have hk2 : n ∉ kv.map (·.1) := by rw [h.keys]; exact hk
    have := h.tab.lack key40 Try.underlying55 (zero22 w) (keyOk40 hn w) hk2 true
    refine ⟨.slice none 0 0, ?_⟩
    rw [show S.knows n = false from decide_eq_false hk]
    exact this

theorem known_any {w : World} {p q : Nat} {F : Nat → Prop} {S : OS} (h : Orc p q S w F) (g c : Int) (hn : Fits (g, c)) :
    Calls Try.prog 21 #[.pointer (some ⟨p, 0, none⟩), nv g c] w fun e w' => e = .returned (.bool (S.knows (g, c))) ∧ Chg no w w' := by
  obtain ⟨b, tv, pv, kv, I, h⟩ := h
  have h1 := h.chg ((Chg.refl no w).alloc (.cells #[.int .i64 g, .int .i64 c] 40)) (fun _ _ h => h)
  have h2 := h1.chg ((Chg.refl no _).drew) (fun _ _ h => h)
  obtain ⟨c0, c1, c2, c3, f3⟩ := h1.cells
  obtain ⟨v, hv⟩ := h2.look hn
  obtain ⟨B, hB⟩ : ∃ B, S.knows (g, c) = B := ⟨_, rfl⟩
  rw [hB] at hv ⊢
  have hpl := h.lt p h.fp
  clear h h1 h2 hB
  go_enter Try.func21, Try.ntmps21
  go_wp2_with fail
  go_region
  all_goals go_wp2
  all_goals go_ret
  all_goals exact ⟨rfl, ((Chg.refl no w).alloc _).drew⟩

end Go.Proofs.Ytmchjnmmeankgaa.st
