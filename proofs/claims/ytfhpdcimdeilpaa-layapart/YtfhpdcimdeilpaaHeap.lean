/- Plain facts on memory, with no word of the program: which blocks a call has changed, what stays in the others, where rows of values lie. -/
import Derived.WalkKit
import Derived.Below
import Derived.OwnWalk
import Derived.OneCell
import Derived.WalkSmall
import Derived.Laws.CopyOwn
import Derived.Deep.RegionLaw
namespace Go.Proofs.Ytfhpdcimdeilpaa.hp
open Go.RowKit
set_option linter.unusedVariables false

/-- w' is w with new blocks, and with writes to those old blocks alone of which F holds. -/
structure Chg (F : Nat → Prop) (w w' : World) : Prop where
  os : w'.os = w.os
  tape : w'.tape = w.tape
  output : w'.output = w.output
  size : w.heap.size ≤ w'.heap.size
  block : ∀ k, k < w.heap.size → ¬ F k → w'.heap[k]? = w.heap[k]?

def no : Nat → Prop := fun _ => False

/-- F, and the blocks that are new in w'. -/
def Wid (F : Nat → Prop) (w w' : World) : Nat → Prop := fun k => F k ∨ (w.heap.size ≤ k ∧ k < w'.heap.size)

theorem Chg.refl (F : Nat → Prop) (w : World) : Chg F w w := ⟨rfl, rfl, rfl, Nat.le_refl _, fun _ _ _ => rfl⟩

theorem Chg.trans {F G : Nat → Prop} {a b c : World} (h : Chg F a b) (k : Chg G b c) (hm : ∀ x, G x → F x ∨ a.heap.size ≤ x) : Chg F a c :=
  ⟨k.os.trans h.os, k.tape.trans h.tape, k.output.trans h.output, Nat.le_trans h.size k.size, fun i hi hn =>
    (k.block i (Nat.lt_of_lt_of_le hi h.size) (fun e => by rcases hm i e with h1 | h1; exact hn h1; omega)).trans (h.block i hi hn)⟩

theorem Chg.then {F : Nat → Prop} {a b c : World} (h : Chg F a b) (k : Chg F b c) : Chg F a c := h.trans k fun _ hx => .inl hx

theorem Chg.mono {F G : Nat → Prop} {a b : World} (h : Chg F a b) (hm : ∀ x, F x → G x ∨ a.heap.size ≤ x) : Chg G a b :=
  ⟨h.os, h.tape, h.output, h.size, fun i hi hn => h.block i hi (fun e => by rcases hm i e with h1 | h1; exact hn h1; omega)⟩

theorem Chg.of_below {a b : World} (h : Below a.heap.size a b) (F : Nat → Prop) : Chg F a b := ⟨h.os, h.tape, h.output, h.size, fun i hi _ => h.block i hi⟩

theorem Chg.of_no {a b : World} (h : Chg no a b) (F : Nat → Prop) : Chg F a b := h.mono fun _ h => h.elim

theorem Chg.below {a b : World} (h : Chg no a b) : Below a.heap.size a b := ⟨h.os, h.tape, h.output, h.size, fun i hi => h.block i hi id⟩

theorem Chg.drewN {F : Nat → Prop} {a b : World} (h : Chg F a b) (n : Nat) : Chg F a (b.drewN n) := ⟨h.os, h.tape, h.output, h.size, h.block⟩

theorem Chg.drew {F : Nat → Prop} {a b : World} (h : Chg F a b) : Chg F a b.drew := ⟨h.os, h.tape, h.output, h.size, h.block⟩

theorem Chg.alloc {F : Nat → Prop} {a b : World} (h : Chg F a b) (o : Obj) : Chg F a (b.alloc o) :=
  h.trans (G := no) ⟨rfl, rfl, rfl, by simp, fun k hk _ => Below.heap_alloc _ _ _ (by omega)⟩ fun _ h => h.elim

theorem Chg.setCell {F : Nat → Prop} {a b : World} (h : Chg F a b) (p : Addr) (u : Value) (hp : F p.block ∨ a.heap.size ≤ p.block) : Chg F a (b.setCell p u) :=
  h.trans (G := fun k => k = p.block) ⟨rfl, rfl, rfl, by simp, fun k hk hn => Below.heap_setCell _ _ _ _ hn⟩ (by intro x hx; subst hx; exact hp)

theorem Chg.grown {F : Nat → Prop} {a b c : World} {r : Option Nat} (h : Chg F a b) (g : b.grownBy c r) (hr : ∀ k, r = some k → F k ∨ a.heap.size ≤ k) : Chg F a c :=
  h.trans (G := fun k => r = some k) ⟨g.os, g.tape, g.output, g.size, fun k hk hn => g.block k hk fun e => hn e.symm⟩ hr

theorem Chg.blocked {F : Nat → Prop} {a b c : World} {B : Nat} (h : Chg F a b) (k : Below B b c) (hB : a.heap.size ≤ B) : Chg F a c :=
  ⟨k.os.trans h.os, k.tape.trans h.tape, k.output.trans h.output, Nat.le_trans h.size k.size, fun i hi hn => (k.block i (by omega)).trans (h.block i hi hn)⟩

theorem Chg.heap {F : Nat → Prop} {w w' : World} (h : Chg F w w') {k : Nat} {o : Obj} (hk : w.heap[k]? = some o) (hn : ¬ F k) : w'.heap[k]? = some o :=
  (h.block k (lt_of_block hk) hn).trans hk

theorem Chg.cell {F : Nat → Prop} {w w' : World} (h : Chg F w w') {a : Addr} {v : Value} (hk : w.cell? a = some v) (hn : ¬ F a.block) : w'.cell? a = some v :=
  (World.cell?_of_block (h.block a.block (World.block_lt_of_cell? w a hk) hn)).trans hk

theorem Chg.owns {F : Nat → Prop} {w w' : World} (c : Chg F w w') {base : Nat} {e : TypeId} {size : Nat} {v : Value} {n : Nat} {xs : List Value} (h : w.ownsRow base e size v n xs) (hn : ∀ k, v.ownBlock = some k → ¬ F k) :
    w'.ownsRow base e size v n xs := by
  refine ⟨h.1, ?_⟩
  rcases h.2 with hh | ⟨g, cap, cur, rfl, hb, hg, rest⟩
  · exact .inl hh
  · exact .inr ⟨g, cap, cur, rfl, hb, c.heap hg (hn g rfl), rest⟩

/-- The slice v shows the values xs; where it shows any its block is one of which J holds. -/
def Lies (J : Nat → Prop) (w : World) (v : Value) (xs : List Value) : Prop :=
  (v = .slice none 0 0 ∧ xs = []) ∨ ∃ x c, v = .slice (some x) xs.length c ∧ (xs ≠ [] → J x.block) ∧ ∀ i u, xs[i]? = some u → w.cell? (x.add i) = some u

theorem add_block (a : Addr) (i : Nat) : (a.add i).block = a.block := by unfold Addr.add; split <;> rfl

theorem ne_of_get {xs : List Value} {i : Nat} {u : Value} (h : xs[i]? = some u) : xs ≠ [] := by rintro rfl; simp at h

theorem Lies.chg {F J : Nat → Prop} {w w' : World} {v : Value} {xs : List Value} (h : Lies J w v xs) (c : Chg F w w') (hn : ∀ k, J k → ¬ F k) : Lies J w' v xs := by
  rcases h with h | ⟨x, cp, rfl, hJ, hc⟩
  · exact .inl h
  · exact .inr ⟨x, cp, rfl, hJ, fun i u hu => c.cell (hc i u hu) (by rw [add_block]; exact hn _ (hJ (ne_of_get hu)))⟩

theorem Lies.mono {J K : Nat → Prop} {w : World} {v : Value} {xs : List Value} (h : Lies J w v xs) (hn : ∀ k, J k → K k) : Lies K w v xs := by
  rcases h with h | ⟨x, cp, rfl, hJ, hc⟩
  · exact .inl h
  · exact .inr ⟨x, cp, rfl, fun e => hn _ (hJ e), hc⟩

theorem Lies.of_owns {J : Nat → Prop} {w : World} {base : Nat} {e : TypeId} {v : Value} {n : Nat} {xs : List Value} (h : w.ownsRow base e 1 v n xs) (hJ : ∀ k, v.ownBlock = some k → J k) : Lies J w v xs := by
  have hl : xs.length = n := by have := h.1; omega
  rcases h.2 with ⟨rfl, hn⟩ | ⟨g, cap, cur, rfl, hb, hg, hc, hm, hs, ht⟩
  · exact .inl ⟨rfl, List.eq_nil_of_length_eq_zero (by omega)⟩
  · exact .inr ⟨_, _, by rw [hl], fun _ => hJ g rfl, h.cells rfl⟩

theorem Lies.slice {J : Nat → Prop} {w : World} {v : Value} {xs : List Value} (h : Lies J w v xs) : ∃ a c, v = .slice a xs.length c ∧ (∀ i u, xs[i]? = some u → ∃ x, a = some x ∧ J x.block ∧ w.cell? (x.add i) = some u) := by
  rcases h with ⟨rfl, rfl⟩ | ⟨x, cp, rfl, hJ, hc⟩
  · exact ⟨_, _, rfl, fun i u hu => by simp at hu⟩
  · exact ⟨_, _, rfl, fun i u hu => ⟨x, rfl, hJ (ne_of_get hu), hc i u hu⟩⟩

theorem row_set {w : World} {g : Nat} {xs : List Value} {t : TypeId} (h : w.heap[g]? = some (.cells xs.toArray t (0, 0))) (j : Nat) (u : Value) :
    (w.setCell ⟨g, j, none⟩ u).heap[g]? = some (.cells (xs.set j u).toArray t (0, 0)) := by
  simp [World.setCell, Array.getElem?_modify, h]

theorem row_cell {w : World} {g : Nat} {xs : List Value} {t : TypeId} (h : w.heap[g]? = some (.cells xs.toArray t (0, 0))) (j : Nat) (u : Value) (hu : xs[j]? = some u) :
    w.cell? ⟨g, j, none⟩ = some u ∧ w.frozen? ⟨g, j, none⟩ = false := by
  simp [World.cell?, World.frozen?, h, hu]

theorem row_whole {w : World} {base g n : Nat} {e : TypeId} {xs : List Value} (h : w.ownsRow base e 1 (.slice (some ⟨g, 0, none⟩) n n) n xs) : w.heap[g]? = some (.cells xs.toArray e (0, 0)) ∧ base ≤ g := by
  rcases h.2 with ⟨hv, _⟩ | ⟨g', cap, cur, hv, hb, hg, _, _, hs, ht⟩
  · cases hv
  · simp at hv
    obtain ⟨rfl, rfl⟩ := hv
    refine ⟨?_, hb⟩
    rw [hg]
    congr 2
    rw [← ht, List.take_of_length_le (by simp; omega)]

theorem owns_shape {w : World} {base : Nat} {e : TypeId} {size : Nat} {v : Value} {n : Nat} {xs : List Value} (h : w.ownsRow base e size v n xs) : ∃ a c, v = .slice a n c := by
  rcases h.2 with ⟨rfl, rfl⟩ | ⟨g, cap, cur, rfl, _⟩
  · exact ⟨_, _, rfl⟩
  · exact ⟨_, _, rfl⟩

theorem ret_int {k : IntKind} {a b : Int} (h : a = b) : Ending.returned (.int k a) = .returned (.int k b) := by rw [h]
theorem ret_bool {a b : Bool} (h : a = b) : Ending.returned (.bool a) = .returned (.bool b) := by rw [h]

/-- append to a row of the call's own, as one step of a region that draws. -/
theorem step_append_own {P : Program} {ops : Array Oper} {o : Oper} {a : Act} {w : World} {K : Act → World → Prop} {Q : Exit → Act → World → Prop} {E : Prop} (hg : o.guard = none) (s x : Operand) (t : TypeId)
    (ho : o.op = .call { callee := .builtin .append, args := #[s, x], argTypes := #[t, t] })
    (base : Nat) (e : TypeId) (i : TypeInfo) (z : Value) (size bytes : Nat) (ht : P.underlying t = some (.slice e)) (hi : P.info? e = some i) (hz : i.zero = some z)
    (hsize : i.size = size) (hby : i.bytes = bytes) (hzs : z.cells.size = size) (hsz : 0 < size)
    (v : Value) (n : Nat) (xs : List Value) (hs : a.eval s = v) (hown : w.ownsRow base e size v n xs)
    (ad : Addr) (m c : Nat) (news : List Value) (hx : a.eval x = .slice (some ad) m c) (hl : news.length = m * size) (hnews : ∀ j u, news[j]? = some u → w.cell? (ad.add j) = some u) (h1 : ∀ u ∈ news, u.oneCell' = true)
    (h63 : n + m ≤ maxLen) (hbytes : (n + m) * bytes ≤ 140737488355328) (hbase : base ≤ w.heap.size)
    (h : ∀ v' w', w'.ownsRow base e size v' (n + m) (xs ++ news) → w.grownBy w' v.ownBlock → K (a.put o.dst v') w') :
    if Region.wanted o (yielded ops a.tmps) = true then Oper.wp P o a w K Q else E := by
  have hw : Region.wanted o (yielded ops a.tmps) = true := by simp [Region.wanted, hg]
  rw [if_pos hw]
  exact wp_append_own w s x t ho base e i z size bytes ht hi hz hsize hby hzs hsz v n xs hs hown ad m c news hx hl hnews h1 h63 hbytes hbase fun v' w' h2 h3 _ => h v' w' h2 h3

end Go.Proofs.Ytfhpdcimdeilpaa.hp
