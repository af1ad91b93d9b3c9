/- One contract for every argument, of the tapes and of the document's own; and what the walk of TapeDraws carries from round to round. -/
import Derived.Test.YtfandaicnolkeaaRef
import Derived.Test.YtfandaicnolkeaaFar
namespace Go.Proofs.Ytfandaicnolkeaa.tp
open Go.ChangeShapes Go.WideShapes Go.ChangeAt Go.RowKit Go.Proofs.Ytfandaicnolkeaa.hp
set_option linter.unusedVariables false

def drV (zs : List Int) (A : Nat) (h : Int) : Int := if 0 ≤ h ∧ h ≤ 6 then leafOf zs A h.toNat else 0
def drT (A : Nat) (h : Int) : Int := if 0 ≤ h ∧ h ≤ 6 then A else -1
def drN (h : Int) : Nat := if 0 ≤ h ∧ h ≤ 6 then 1 else 0
def pdN (n : Int) : Nat := if 1 ≤ n ∧ n ≤ 1048576 then n.toNat else 0

theorem drN_le (h : Int) : drN h ≤ 1 := by unfold drN; split <;> omega
theorem pdN_le (n : Int) (hn : n ≤ 3000) : pdN n ≤ 3000 := by unfold pdN; split <;> omega

theorem leaves_uni {w : World} {p A : Nat} {zs : List Int} {v : Value} {lo hi : Nat} (T : Tp 46 3 .i64 w p A zs v lo hi) (hA : A ≤ 1000000) (h : Int) :
    Calls Try.prog 12 #[.pointer (some ⟨p, 0, none⟩), .int .i64 h] w fun e w' => e = .returned (.tuple #[.int .i64 (drV zs A h), .int .i64 (drT A h)]) ∧ Tp 46 3 .i64 w' p (A + drN h) zs v lo hi ∧ Chg [p] w w' := by
  by_cases hh : 0 ≤ h ∧ h ≤ 6
  · obtain ⟨k, rfl⟩ := Int.eq_ofNat_of_zero_le hh.1
    simp only [drV, drT, drN, if_pos hh, Int.toNat_natCast]
    exact draw_any T hA k (by omega)
  · simp only [drV, drT, drN, if_neg hh]
    refine (draw_bad p w h (by omega)).mono fun e w' hr => ?_
    obtain ⟨rfl, rfl⟩ := hr
    exact ⟨rfl, T, Chg.refl _ _⟩

theorem refLeaves_uni {w : World} {p A : Nat} {zs : List Int} {a : Option Addr} {len cap : Nat} (hb : w.heap[p]? = some (.cells #[.slice a len cap, .int .i64 A] 34 (0, 0))) (Ar : Arg .i64 w a len cap zs) (hl : len ≤ 100000) (hA : A ≤ 1000000) (h : Int) :
    Calls Try.prog 13 #[.pointer (some ⟨p, 0, none⟩), .int .i64 h] w fun e w' => e = .returned (.tuple #[.int .i64 (drV zs A h), .int .i64 (drT A h)]) ∧ w'.heap[p]? = some (.cells #[.slice a len cap, .int .i64 ((A + drN h : Nat) : Int)] 34 (0, 0)) ∧ Chg [p] w w' := by
  by_cases hh : 0 ≤ h ∧ h ≤ 6
  · obtain ⟨k, rfl⟩ := Int.eq_ofNat_of_zero_le hh.1
    simp only [drV, drT, drN, if_pos hh, Int.toNat_natCast]
    refine (refLeaves_draw hb Ar hl hA k (by omega)).mono fun e w' hr => ?_
    obtain ⟨rfl, m, rfl⟩ := hr
    exact ⟨rfl, heap_set2 hb, (((Chg.refl [p] w).setCell _ _ (.inl (by simp))).drewN m)⟩
  · simp only [drV, drT, drN, if_neg hh]
    refine (refLeaves_bad p w h (by omega)).mono fun e w' hr => ?_
    obtain ⟨rfl, rfl⟩ := hr
    exact ⟨rfl, hb, Chg.refl _ _⟩

theorem pads_uni {w : World} {p B : Nat} {zs : List Int} {v : Value} {lo hi : Nat} (T : Tp 50 5 .u8 w p B zs v lo hi) (hB : B ≤ 100000000) (n : Int) :
    Calls Try.prog 17 #[.pointer (some ⟨p, 0, none⟩), .int .i64 n] w fun e w' => ∃ a' c', e = .returned (.slice a' (pdN n) c') ∧ Arg .u8 w' a' (pdN n) c' (padsOf zs B (pdN n)) ∧ (∀ x, a' = some x → w.heap.size ≤ x.block) ∧ Tp 50 5 .u8 w' p (B + pdN n) zs v lo hi ∧ Chg [p] w w' := by
  by_cases hh : 1 ≤ n ∧ n ≤ 1048576
  · obtain ⟨k, rfl⟩ := Int.eq_ofNat_of_zero_le (show 0 ≤ n by omega)
    simp only [pdN, if_pos hh, Int.toNat_natCast]
    refine (pads_draw T hB k (by omega) (by omega)).mono fun e w' hr => ?_
    obtain ⟨rfl, ho, T', c⟩ := hr
    exact ⟨_, _, rfl, Arg.of_owns ho, fun x hx => (by cases hx; exact Nat.le_refl _), T', c⟩
  · simp only [pdN, if_neg hh]
    refine (pads_bad p w n (by omega)).mono fun e w' hr => ?_
    obtain ⟨rfl, rfl⟩ := hr
    exact ⟨_, _, rfl, .inl ⟨rfl, rfl, rfl, rfl⟩, fun x hx => (by cases hx), T, Chg.refl _ _⟩

theorem refPads_uni {w : World} {p B : Nat} {zs : List Int} {a : Option Addr} {len cap : Nat} (hb : w.heap[p]? = some (.cells #[.slice a len cap, .int .i64 B] 37 (0, 0))) (Ar : Arg .u8 w a len cap zs) (hl : len ≤ 100000) (hB : B ≤ 100000000) (n : Int) :
    Calls Try.prog 18 #[.pointer (some ⟨p, 0, none⟩), .int .i64 n] w fun e w' => ∃ a' c', e = .returned (.slice a' (pdN n) c') ∧ Arg .u8 w' a' (pdN n) c' (padsOf zs B (pdN n)) ∧ w'.heap[p]? = some (.cells #[.slice a len cap, .int .i64 ((B + pdN n : Nat) : Int)] 37 (0, 0)) ∧ Chg [p] w w' := by
  by_cases hh : 1 ≤ n ∧ n ≤ 1048576
  · obtain ⟨k, rfl⟩ := Int.eq_ofNat_of_zero_le (show 0 ≤ n by omega)
    simp only [pdN, if_pos hh, Int.toNat_natCast]
    refine (refPads_draw hb Ar hl hB k (by omega) (by omega)).mono fun e w' hr => ?_
    obtain ⟨rfl, ho, hb', c⟩ := hr
    exact ⟨_, _, rfl, Arg.of_owns (owns_of_block ho (by simp [padsOf_length]) (by unfold maxLen; omega) 0 (Nat.zero_le _)), hb', c⟩
  · simp only [pdN, if_neg hh]
    refine (refPads_bad p w n (by omega)).mono fun e w' hr => ?_
    obtain ⟨rfl, rfl⟩ := hr
    exact ⟨_, _, rfl, .inl ⟨rfl, rfl, rfl, rfl⟩, hb, Chg.refl _ _⟩

theorem add_block (x : Addr) (i : Nat) : (x.add i).block = x.block := by unfold Addr.add; split <;> rfl

theorem Arg.chg {k : IntKind} {w w' : World} {a : Option Addr} {len cap : Nat} {zs : List Int} (h : Arg k w a len cap zs) {l : List Nat} (c : Chg l w w') (hl : ∀ x, a = some x → x.block ∉ l) : Arg k w' a len cap zs := by
  rcases h with ⟨rfl, rfl, rfl, rfl⟩ | ⟨x, rfl, hz, hc⟩
  · exact .inl ⟨rfl, rfl, rfl, rfl⟩
  · exact .inr ⟨x, rfl, hz, fun i hi => c.cell (hc i hi) (by rw [add_block]; exact hl x rfl)⟩

/-- A: drawn of the leaves, A' of the document's; B, B': of the pads. -/
structure S2 (w : World) (b1 b2 b3 p q x y : Nat) (v u s t : Value) (zl zp : List Int) (A A' B B' : Nat) (wr : World) : Prop where
  P : Tp 46 3 .i64 wr p A zl v b1 b2
  Q : Tp 50 5 .u8 wr q B zp u b2 b3
  X : wr.heap[x]? = some (.cells #[s, .int .i64 A'] 34 (0, 0))
  Y : wr.heap[y]? = some (.cells #[t, .int .i64 B'] 37 (0, 0))
  C : Chg [] w wr
  h0 : w.heap.size ≤ b1
  h1 : b1 ≤ b2
  h2 : b2 ≤ b3
  hx : b3 ≤ x
  hy : x < y

section
variable {w : World} {b1 b2 b3 p q x y : Nat} {v u s t : Value} {zl zp : List Int} {A A' B B' : Nat} {wr w' : World}

theorem S2.later (h : S2 w b1 b2 b3 p q x y v u s t zl zp A A' B B' wr) (c : Chg [] wr w') : S2 w b1 b2 b3 p q x y v u s t zl zp A A' B B' w' :=
  ⟨h.P.chg c (by simp), h.Q.chg c (by simp), c.heap h.X (by simp), c.heap h.Y (by simp), h.C.trans c (by simp), h.h0, h.h1, h.h2, h.hx, h.hy⟩

theorem S2.aside (h : S2 w b1 b2 b3 p q x y v u s t zl zp A A' B B' wr) {g : Nat} (c : Chg [g] wr w') (hg0 : w.heap.size ≤ g) (hg : g < b1) : S2 w b1 b2 b3 p q x y v u s t zl zp A A' B B' w' := by
  have e1 := h.h1
  have e2 := h.h2
  have e3 := h.hx
  have e4 := h.hy
  exact ⟨h.P.chg c (fun z hz => by simp at hz; omega), h.Q.chg c (fun z hz => by simp at hz; omega), c.heap h.X (by simp; omega), c.heap h.Y (by simp; omega), h.C.trans c (fun z hz => by simp at hz; exact .inr (by omega)), h.h0, h.h1, h.h2, h.hx, h.hy⟩

theorem S2.drawP (h : S2 w b1 b2 b3 p q x y v u s t zl zp A A' B B' wr) {n : Nat} (T : Tp 46 3 .i64 w' p n zl v b1 b2) (c : Chg [p] wr w') : S2 w b1 b2 b3 p q x y v u s t zl zp n A' B B' w' := by
  have f1 := h.P.plo
  have f2 := h.P.phi
  have e0 := h.h0
  have e2 := h.h2
  have e3 := h.hx
  have e4 := h.hy
  exact ⟨T, h.Q.chg c (fun z hz => by simp at hz; omega), c.heap h.X (by simp; omega), c.heap h.Y (by simp; omega), h.C.trans c (fun z hz => by simp at hz; exact .inr (by omega)), h.h0, h.h1, h.h2, h.hx, h.hy⟩

theorem S2.drawQ (h : S2 w b1 b2 b3 p q x y v u s t zl zp A A' B B' wr) {n : Nat} (T : Tp 50 5 .u8 w' q n zp u b2 b3) (c : Chg [q] wr w') : S2 w b1 b2 b3 p q x y v u s t zl zp A A' n B' w' := by
  have f1 := h.Q.plo
  have f2 := h.Q.phi
  have e0 := h.h0
  have e1 := h.h1
  have e3 := h.hx
  have e4 := h.hy
  exact ⟨h.P.chg c (fun z hz => by simp at hz; omega), T, c.heap h.X (by simp; omega), c.heap h.Y (by simp; omega), h.C.trans c (fun z hz => by simp at hz; exact .inr (by omega)), h.h0, h.h1, h.h2, h.hx, h.hy⟩

theorem S2.drawX (h : S2 w b1 b2 b3 p q x y v u s t zl zp A A' B B' wr) {n : Nat} (hb : w'.heap[x]? = some (.cells #[s, .int .i64 n] 34 (0, 0))) (c : Chg [x] wr w') : S2 w b1 b2 b3 p q x y v u s t zl zp A n B B' w' := by
  have e0 := h.h0
  have e1 := h.h1
  have e2 := h.h2
  have e3 := h.hx
  have e4 := h.hy
  exact ⟨h.P.chg c (fun z hz => by simp at hz; omega), h.Q.chg c (fun z hz => by simp at hz; omega), hb, c.heap h.Y (by simp; omega), h.C.trans c (fun z hz => by simp at hz; exact .inr (by omega)), h.h0, h.h1, h.h2, h.hx, h.hy⟩

theorem S2.drawY (h : S2 w b1 b2 b3 p q x y v u s t zl zp A A' B B' wr) {n : Nat} (hb : w'.heap[y]? = some (.cells #[t, .int .i64 n] 37 (0, 0))) (c : Chg [y] wr w') : S2 w b1 b2 b3 p q x y v u s t zl zp A A' B n w' := by
  have e0 := h.h0
  have e1 := h.h1
  have e2 := h.h2
  have e3 := h.hx
  have e4 := h.hy
  exact ⟨h.P.chg c (fun z hz => by simp at hz; omega), h.Q.chg c (fun z hz => by simp at hz; omega), c.heap h.X (by simp; omega), hb, h.C.trans c (fun z hz => by simp at hz; exact .inr (by omega)), h.h0, h.h1, h.h2, h.hx, h.hy⟩
end

theorem own_store {wr : World} {base n c : Nat} {E : TypeId} {a : Option Addr} {xs : List Value} (h : wr.ownsRow base E 1 (.slice a n c) n xs) (k : Nat) (hk : k < n) :
    ∃ g, a = some ⟨g, 0, none⟩ ∧ (∃ u, wr.cell? ⟨g, k, none⟩ = some u) ∧ wr.frozen? ⟨g, k, none⟩ = false ∧ ∀ u, ∃ xs', (wr.setCell ⟨g, k, none⟩ u).ownsRow base E 1 (.slice a n c) n xs' := by
  have hl := h.1
  rcases h.2 with ⟨hv, hn⟩ | ⟨g, cap, cur, hv, _⟩
  · omega
  · simp at hv
    obtain ⟨rfl, rfl⟩ := hv
    refine ⟨g, rfl, ⟨xs[k]'(by omega), ?_⟩, h.frozenAt k, fun u => ⟨_, (h.stored k u).1⟩⟩
    rw [h.cellAt k (by omega)]
    simp

/-- The list of operations that came in: of each a height and a number. -/
def OpsArg (w : World) (a : Option Addr) (len cap : Nat) (hs ns : Nat → Int) : Prop :=
  (a = none ∧ len = 0 ∧ cap = 0) ∨ ∃ x, a = some x ∧ ∀ i, i < len → w.cell? (x.add (i * 2)) = some (.int .i64 (hs i)) ∧ w.cell? (x.add (i * 2 + 1)) = some (.int .i64 (ns i))

theorem OpsArg.at {w w' : World} {a : Option Addr} {len cap : Nat} {hs ns : Nat → Int} (h : OpsArg w a len cap hs ns) (c : Chg [] w w') (i : Nat) (hi : i < len) :
    ∃ x, a = some x ∧ w'.cell? (x.add (i * 2)) = some (.int .i64 (hs i)) ∧ w'.cell? (x.add (i * 2 + 1)) = some (.int .i64 (ns i)) := by
  rcases h with ⟨rfl, rfl, rfl⟩ | ⟨x, rfl, hc⟩
  · omega
  · exact ⟨x, rfl, c.cell (hc i hi).1 (by simp), c.cell (hc i hi).2 (by simp)⟩

theorem add_field (x : Addr) (i : Nat) : x.add (i + 1) = ⟨(x.add i).block, (x.add i).off + 1, none⟩ := by
  unfold Addr.add
  rw [if_neg (by omega)]
  split
  · subst_vars; rfl
  · rfl

theorem OpsArg.cells {w w' : World} {x : Addr} {len cap : Nat} {hs ns : Nat → Int} (h : OpsArg w (some x) len cap hs ns) (c : Chg [] w w') (i : Nat) (hi : i < len) :
    w'.cell? (x.add (i * 2)) = some (.int .i64 (hs i)) ∧ w'.cell? ⟨(x.add (i * 2)).block, (x.add (i * 2)).off + 1, none⟩ = some (.int .i64 (ns i)) := by
  obtain ⟨y, hy, hc⟩ := h.at c i hi
  cases hy
  rw [← add_field]
  exact hc
end Go.Proofs.Ytfandaicnolkeaa.tp
