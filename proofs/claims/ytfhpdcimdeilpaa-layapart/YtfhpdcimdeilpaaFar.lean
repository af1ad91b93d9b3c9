/- A region that draws its order and holds calls that write memory: one walk in the order of the text serves every order, where the calls are chained and each other operation yields one value in all worlds in which it may come up. No word of the program. -/
import Derived.WalkKit
import Derived.Deep.QuietTactic
import Derived.BigQuiet
namespace Go.Proofs.Ytfhpdcimdeilpaa.far
open Go.RowKit
set_option linter.unusedVariables false

/-- A world of which p holds. -/
structure InC (p : World → Prop) where
  w : World
  h : p w

section
variable {P : Program} {ops : Array Oper}

/-- The operation, carried out in w, yields a value and a world of which K holds; a call must return. -/
def Moves (P : Program) (o : Oper) (a : Act) (w : World) (K : Value → World → Prop) : Prop :=
  match (execOp a.eval o).run P w with
  | .ok (.value v) w' => K v w'
  | .ok .skip w' => K undef w'
  | .ok (.enter f args) w' => Calls P f args w' (fun e w'' => ∃ v, e = .returned v ∧ K v w'')
  | _ => False

theorem Moves.mono {o : Oper} {a : Act} {w : World} {K K' : Value → World → Prop} (h : ∀ v w', K v w' → K' v w') (hm : Moves P o a w K) : Moves P o a w K' := by
  unfold Moves at *
  generalize (execOp a.eval o).run P w = r at *
  cases r with
  | ok n w' =>
    cases n <;> simp only at hm ⊢
    case value v => exact h _ _ hm
    case skip => exact h _ _ hm
    case enter f args => exact hm.mono fun e w'' ⟨v, hv, hk⟩ => ⟨v, hv, h _ _ hk⟩
  | halt x w' => exact hm

theorem Moves.witness {o : Oper} {a : Act} {w : World} {K : Value → World → Prop} (hm : Moves P o a w K) : ∃ v w', K v w' := by
  unfold Moves at *
  generalize (execOp a.eval o).run P w = r at *
  cases r with
  | ok n w' =>
    cases n <;> simp only at hm
    case value v => exact ⟨_, _, hm⟩
    case skip => exact ⟨_, _, hm⟩
    case enter f args =>
      obtain ⟨e, w'', fr, ⟨v, _, hk⟩, _⟩ := hm []
      exact ⟨v, w'', hk⟩
  | halt x w' => exact hm.elim

theorem Moves.wp {o : Oper} {a : Act} {w : World} {K : Value → World → Prop} {K' : Act → World → Prop} {Q : Exit → Act → World → Prop} (h : ∀ v w', K v w' → K' (a.put o.dst v) w') (hm : Moves P o a w K) : o.wp P a w K' Q := by
  unfold Moves at hm
  unfold Oper.wp
  generalize (execOp a.eval o).run P w = r at *
  cases r with
  | ok n w' =>
    cases n <;> simp only at hm <;> simp only [Oper.upon]
    case value v => exact h _ _ hm
    case skip => exact h _ _ hm
    case enter f args => exact hm.mono fun e w'' ⟨v, hv, hk⟩ => by subst hv; exact h _ _ hk
  | halt x w' => exact hm.elim

theorem Moves.same {o : Oper} {a a' : Act} {w : World} {K : Value → World → Prop} (he : execOp a'.eval o = execOp a.eval o) (hm : Moves P o a w K) : Moves P o a' w K := by
  unfold Moves at *
  rw [he]
  exact hm

/-- What is laid out once for a region: C k: what holds of the world when k of the movers have come up; ms: the movers, in the text's order; tab: of each operation those on which it waits, as bits. -/
structure Plan where
  C : Nat → World → Prop
  ms : List Nat
  tab : List Nat

/-- May operation i come up when k movers have? -/
def Plan.win (L : Plan) (i k : Nat) : Bool :=
  decide (k ≤ L.ms.length) && (List.range L.ms.length).all fun j => (!(L.tab.getD i 0).testBit (L.ms.getD j 0) || decide (j < k)) && (!(L.tab.getD (L.ms.getD j 0) 0).testBit i || decide (k ≤ j))

/-- In every world in which it may come up operation i yields v and leaves the world as it is. -/
def Plan.yields (L : Plan) (P : Program) (i : Nat) (o : Oper) (a : Act) (v : Value) : Prop :=
  ∀ k w, L.win i k = true → L.C k w → (execOp a.eval o).run P w = .ok (.value v) w ∨ ((execOp a.eval o).run P w = .ok .skip w ∧ v = undef)

/-- The walk in the text's order over the operations that are left. -/
def far (L : Plan) (P : Program) (ops : Array Oper) (Q : Act → World → Prop) : List Nat → Act → World → Prop
  | [], a, w => Q a w
  | i :: r, a, w => ∃ o, ops[i]? = some o ∧
      if Region.wanted o (yielded ops a.tmps) = true then
        if L.ms.contains i = true then Moves P o a w (fun v w' => L.C (L.ms.idxOf i + 1) w' ∧ far L P ops Q r (a.put o.dst v) w')
        else ∃ v, L.yields P i o a v ∧ far L P ops Q r (a.put o.dst v) w
      else (L.ms.contains i = true → L.C (L.ms.idxOf i + 1) w) ∧ far L P ops Q r (a.put o.dst undef) w

/-- The edges: each leads to a lower operation; two operations wait for one another or are apart. -/
def edgesB (ops : Array Oper) : Bool :=
  (List.range ops.size).all fun i => match ops[i]? with
    | none => true
    | some o => (o.after.all fun e => !Region.binds .any e || decide (e.on < i)) &&
        (List.range i).all fun x => match ops[x]? with
          | none => true
          | some ox => (o.after.any fun e => Region.binds .any e && e.on == x) || ox.apart ops o

/-- Each bit of the table is an edge, or a bit of an edge's end. -/
def tabB (ops : Array Oper) (tab : List Nat) : Bool :=
  (List.range ops.size).all fun i => match ops[i]? with
    | none => true
    | some o => (List.range ops.size).all fun x => !(tab.getD i 0).testBit x || o.after.any fun e => Region.binds .any e && (e.on == x || (tab.getD e.on 0).testBit x)

/-- The movers: in order, each waiting for all before it. -/
def moversB (ops : Array Oper) (ms tab : List Nat) : Bool :=
  (List.range ms.length).all fun j => decide (ms.getD j 0 < ops.size) && (List.range j).all fun h => decide (ms.getD h 0 < ms.getD j 0) && (tab.getD (ms.getD j 0) 0).testBit (ms.getD h 0)

def mkTab (ops : Array Oper) : List Nat :=
  (ops.foldl (fun (t : Array Nat) o => t.push (o.after.foldl (fun m e => if Region.binds .any e then m ||| (1 <<< e.on) ||| t.getD e.on 0 else m) 0)) #[]).toList

def planB (ops : Array Oper) (ms tab : List Nat) : Bool := Region.noSelect ops && edgesB ops && tabB ops tab && moversB ops ms tab

/-- What the Booleans say. -/
structure Good (L : Plan) (ops : Array Oper) : Prop where
  sel : ∀ (j : Nat) (o : Oper) cs b, ops[j]? = some o → o.op ≠ .select cs b
  low : ∀ i o e, ops[i]? = some o → e ∈ o.after → Region.binds .any e = true → e.on < i
  apart : ∀ x i ox oi, x < i → ops[x]? = some ox → ops[i]? = some oi → (∃ e ∈ oi.after, Region.binds .any e = true ∧ e.on = x) ∨ ox.apart ops oi = true
  tab : ∀ i o x, ops[i]? = some o → x < ops.size → (L.tab.getD i 0).testBit x = true → ∃ e ∈ o.after, Region.binds .any e = true ∧ (e.on = x ∨ (L.tab.getD e.on 0).testBit x = true)
  msLt : ∀ j, j < L.ms.length → L.ms.getD j 0 < ops.size
  msUp : ∀ h j, h < j → j < L.ms.length → L.ms.getD h 0 < L.ms.getD j 0
  chain : ∀ h j, h < j → j < L.ms.length → (L.tab.getD (L.ms.getD j 0) 0).testBit (L.ms.getD h 0) = true

theorem good_of {L : Plan} (h : planB ops L.ms L.tab = true) : Good L ops := by
  simp only [planB, Bool.and_eq_true] at h
  obtain ⟨⟨⟨h1, h2⟩, h3⟩, h4⟩ := h
  have sz : ∀ {i : Nat} {o : Oper}, ops[i]? = some o → i < ops.size := fun ho => (Array.getElem?_eq_some_iff.1 ho).1
  refine ⟨fun j o cs b ho => Region.noSelect_spec h1 j o cs b ho, ?_, ?_, ?_, ?_, ?_, ?_⟩
  · intro i o e ho he hb
    have := List.all_eq_true.1 h2 i (List.mem_range.2 (sz ho))
    simp only [ho, Bool.and_eq_true] at this
    have := Array.all_eq_true_iff_forall_mem.1 this.1 e he
    simpa [hb] using this
  · intro x i ox oi hx hox hoi
    have := List.all_eq_true.1 h2 i (List.mem_range.2 (sz hoi))
    simp only [hoi, Bool.and_eq_true] at this
    have := List.all_eq_true.1 this.2 x (List.mem_range.2 hx)
    simp only [hox, Bool.or_eq_true] at this
    rcases this with h | h
    · obtain ⟨e, he, hb⟩ := Array.any_eq_true'.1 h
      simp only [Bool.and_eq_true, beq_iff_eq] at hb
      exact .inl ⟨e, he, hb⟩
    · exact .inr h
  · intro i o x ho hx hb
    have := List.all_eq_true.1 h3 i (List.mem_range.2 (sz ho))
    simp only [ho] at this
    have := List.all_eq_true.1 this x (List.mem_range.2 hx)
    simp only [hb, Bool.not_true, Bool.false_or] at this
    obtain ⟨e, he, hb'⟩ := Array.any_eq_true'.1 this
    simp only [Bool.and_eq_true, Bool.or_eq_true, beq_iff_eq] at hb'
    exact ⟨e, he, hb'⟩
  · intro j hj
    have := List.all_eq_true.1 h4 j (List.mem_range.2 hj)
    simp only [Bool.and_eq_true, decide_eq_true_eq] at this
    exact this.1
  · intro h j hhj hj
    have := List.all_eq_true.1 h4 j (List.mem_range.2 hj)
    simp only [Bool.and_eq_true, decide_eq_true_eq] at this
    have := List.all_eq_true.1 this.2 h (List.mem_range.2 hhj)
    simp only [Bool.and_eq_true, decide_eq_true_eq] at this
    exact this.1
  · intro h j hhj hj
    have := List.all_eq_true.1 h4 j (List.mem_range.2 hj)
    simp only [Bool.and_eq_true, decide_eq_true_eq] at this
    have := List.all_eq_true.1 this.2 h (List.mem_range.2 hhj)
    simp only [Bool.and_eq_true, decide_eq_true_eq] at this
    exact this.2

/-- All on which a listed operation waits is listed. -/
def Closed (ops : Array Oper) (listed : Array Bool) : Prop := ∀ i o, listed.getD i false = true → ops[i]? = some o → ∀ e ∈ o.after, Region.binds .any e = true → listed.getD e.on false = true

theorem reach {L : Plan} (G : Good L ops) {listed : Array Bool} (hc : Closed ops listed) : ∀ (i : Nat) (o : Oper) (x : Nat), ops[i]? = some o → (∀ e ∈ o.after, Region.binds .any e = true → listed.getD e.on false = true) → x < ops.size → (L.tab.getD i 0).testBit x = true →
    listed.getD x false = true := by
  intro i
  induction i using Nat.strongRecOn with
  | ind i ih =>
    intro o x ho hall hx hb
    obtain ⟨e, he, heb, h | h⟩ := G.tab i o x ho hx hb
    · rw [← h]; exact hall e he heb
    · have hlt := G.low i o e ho he heb
      have hes : e.on < ops.size := Nat.lt_trans hlt (Array.getElem?_eq_some_iff.1 ho).1
      exact ih e.on hlt ops[e.on] x (by simp [hes]) (hc e.on _ (hall e he heb) (by simp [hes])) hx h

def Phase (L : Plan) (listed : Array Bool) (k : Nat) : Prop := k ≤ L.ms.length ∧ ∀ j, j < L.ms.length → (listed.getD (L.ms.getD j 0) false = true ↔ j < k)

def Ystep (L : Plan) (P : Program) (ops : Array Oper) (i : Nat) (o : Oper) (a : Act) (v : Value) : Prop :=
  (Region.wanted o (yielded ops a.tmps) = true ∧ L.yields P i o a v) ∨ (Region.wanted o (yielded ops a.tmps) = false ∧ v = undef)

theorem far_read_iff {L : Plan} {Q : Act → World → Prop} {i : Nat} {r : List Nat} {a : Act} {w : World} (hm : L.ms.contains i = false) :
    far L P ops Q (i :: r) a w ↔ ∃ o, ops[i]? = some o ∧ ∃ v, Ystep L P ops i o a v ∧ far L P ops Q r (a.put o.dst v) w := by
  constructor
  · rintro ⟨o, ho, h⟩
    refine ⟨o, ho, ?_⟩
    split at h
    · rename_i hw
      rw [if_neg (by rw [hm]; exact Bool.false_ne_true)] at h
      obtain ⟨v, hy, hf⟩ := h
      exact ⟨v, .inl ⟨hw, hy⟩, hf⟩
    · rename_i hw
      exact ⟨undef, .inr ⟨by simpa using hw, rfl⟩, h.2⟩
  · rintro ⟨o, ho, v, hy | ⟨hw, rfl⟩, hf⟩
    · refine ⟨o, ho, ?_⟩
      rw [if_pos hy.1, if_neg (by rw [hm]; exact Bool.false_ne_true)]
      exact ⟨v, hy.2, hf⟩
    · refine ⟨o, ho, ?_⟩
      rw [if_neg (by rw [hw]; exact Bool.false_ne_true)]
      exact ⟨fun h => (by rw [hm] at h; cases h), hf⟩

/-- Writing another slot, apart from it, changes nothing for an operation. -/
theorem Ystep.put {L : Plan} {i : Nat} {o : Oper} {a : Act} {v : Value} (hs : ∀ cs b, o.op ≠ .select cs b) (dst : Option Tmp) (u : Value) (h : ∀ d, dst = some d → d ∉ o.looksAt ops) : Ystep L P ops i o (a.put dst u) v ↔ Ystep L P ops i o a v := by
  unfold Ystep Plan.yields
  rw [execOp_put o hs a dst u h, wanted_put o a dst u h]

theorem Ystep.unique {L : Plan} {i : Nat} {o : Oper} {a : Act} {v v' : Value} (h : Ystep L P ops i o a v) (h' : Ystep L P ops i o a v') {k : Nat} {w : World} (hk : L.win i k = true) (hC : L.C k w) : v = v' := by
  rcases h with ⟨hw, hy⟩ | ⟨hw, rfl⟩
  · rcases h' with ⟨hw', hy'⟩ | ⟨hw', rfl⟩
    · have e1 := hy k w hk hC
      have e2 := hy' k w hk hC
      rcases e1 with e1 | ⟨e1, r1⟩ <;> rcases e2 with e2 | ⟨e2, r2⟩ <;> rw [e1] at e2 <;> simp at e2
      · exact e2
      · rw [r1, r2]
    · rw [hw] at hw'; cases hw'
  · rcases h' with ⟨hw', hy'⟩ | ⟨hw', rfl⟩
    · rw [hw] at hw'; cases hw'
    · rfl

def NoEdge (o : Oper) (r : List Nat) : Prop := ∀ x ∈ r, ∀ e ∈ o.after, Region.binds .any e = true → e.on ≠ x

theorem apart_of {L : Plan} (G : Good L ops) {x i : Nat} {ox oi : Oper} {r : List Nat} (hx : x < i) (hox : ops[x]? = some ox) (hoi : ops[i]? = some oi) (hn : NoEdge oi r) (hxr : x ∈ r) : ox.apart ops oi = true := by
  rcases G.apart x i ox oi hx hox hoi with ⟨e, he, hb, hex⟩ | h
  · exact absurd hex (hn x hxr e he hb)
  · exact h

section
variable {L : Plan} {Q : Act → World → Prop} {i : Nat} {oi : Oper}

/-- An operation that is no mover and may come up now: its value can be told. -/
theorem peek (G : Good L ops) (hoi : ops[i]? = some oi) (hm : L.ms.contains i = false) : ∀ (r : List Nat) (a : Act) (w : World), r.Pairwise (· < ·) → i ∈ r → NoEdge oi r → far L P ops Q r a w → ∃ v, Ystep L P ops i oi a v := by
  intro r
  induction r with
  | nil => intro a w _ hi; cases hi
  | cons x r ih =>
    intro a w hp hi hn hf
    have hp' := List.pairwise_cons.1 hp
    by_cases hxi : x = i
    · subst hxi
      obtain ⟨o, ho, v, hy, _⟩ := (far_read_iff hm).1 hf
      rw [hoi] at ho
      cases ho
      exact ⟨v, hy⟩
    · have hir : i ∈ r := by rcases List.mem_cons.1 hi with h | h; exact absurd h.symm hxi; exact h
      have hn' : NoEdge oi r := fun y hy => hn y (List.mem_cons_of_mem _ hy)
      obtain ⟨ox, hox, h⟩ := hf
      have hap := apart_of G (hp'.1 i hir) hox hoi hn (List.mem_cons_self)
      obtain ⟨h1, h2, h3⟩ := Oper.apart_spec hap
      have hsi := fun cs b => G.sel i oi cs b hoi
      have back : ∀ u, (∃ v, Ystep L P ops i oi (a.put ox.dst u) v) → ∃ v, Ystep L P ops i oi a v := fun u ⟨v, hv⟩ => ⟨v, (Ystep.put hsi ox.dst u h1).1 hv⟩
      split at h
      · split at h
        · obtain ⟨v, w', _, hf'⟩ := h.witness
          exact back v (ih _ _ hp'.2 hir hn' hf')
        · obtain ⟨v, _, hf'⟩ := h
          exact back v (ih _ _ hp'.2 hir hn' hf')
      · exact back undef (ih _ _ hp'.2 hir hn' h.2)

/-- .. and it may be taken first. -/
theorem prefill (G : Good L ops) (hoi : ops[i]? = some oi) (hm : L.ms.contains i = false) {v : Value} {k : Nat} {w0 : World} (hk : L.win i k = true) (hC : L.C k w0) : ∀ (r : List Nat) (a : Act) (w : World), r.Pairwise (· < ·) → i ∈ r → NoEdge oi r → Ystep L P ops i oi a v → far L P ops Q r a w →
    far L P ops Q (r.filter (· != i)) (a.put oi.dst v) w := by
  intro r
  induction r with
  | nil => intro a w _ hi; cases hi
  | cons x r ih =>
    intro a w hp hi hn hv hf
    have hp' := List.pairwise_cons.1 hp
    by_cases hxi : x = i
    · subst hxi
      obtain ⟨o, ho, v', hy, hf'⟩ := (far_read_iff hm).1 hf
      rw [hoi] at ho
      cases ho
      have e := Ystep.unique hv hy hk hC
      subst e
      have : (x :: r).filter (· != x) = r := by
        rw [List.filter_cons_of_neg (by simp)]
        rw [List.filter_eq_self]
        intro y hy
        have := hp'.1 y hy
        simp; omega
      rw [this]
      exact hf'
    · have hir : i ∈ r := by rcases List.mem_cons.1 hi with h | h; exact absurd h.symm hxi; exact h
      have hn' : NoEdge oi r := fun y hy => hn y (List.mem_cons_of_mem _ hy)
      obtain ⟨ox, hox, h⟩ := hf
      have hap := apart_of G (hp'.1 i hir) hox hoi hn (List.mem_cons_self)
      obtain ⟨h1, h2, h3⟩ := Oper.apart_spec hap
      have hsi := fun cs b => G.sel i oi cs b hoi
      have hsx := fun cs b => G.sel x ox cs b hox
      have step : ∀ u w', far L P ops Q r (a.put ox.dst u) w' → far L P ops Q (r.filter (· != i)) ((a.put oi.dst v).put ox.dst u) w' := fun u w' hf' => by
        have := ih (a.put ox.dst u) w' hp'.2 hir hn' ((Ystep.put hsi ox.dst u h1).2 hv) hf'
        rw [← Act.put_comm a u v h2]
        exact this
      rw [List.filter_cons_of_pos (by simpa using hxi)]
      refine ⟨ox, hox, ?_⟩
      rw [wanted_put ox a oi.dst v h3]
      split
      · rename_i hw
        rw [if_pos hw] at h
        split
        · rename_i hmx
          rw [if_pos hmx] at h
          exact (h.same (execOp_put ox hsx a oi.dst v h3)).mono fun u w' hh => ⟨hh.1, step u w' hh.2⟩
        · rename_i hmx
          rw [if_neg hmx] at h
          obtain ⟨u, hy, hf'⟩ := h
          refine ⟨u, ?_, step u w hf'⟩
          unfold Plan.yields at *
          rw [execOp_put ox hsx a oi.dst v h3]
          exact hy
      · rename_i hw
        rw [if_neg hw] at h
        exact ⟨h.1, step undef w h.2⟩

/-- A mover that may come up now may be taken first. -/
theorem hop (G : Good L ops) (hoi : ops[i]? = some oi) (hm : L.ms.contains i = true) : ∀ (r : List Nat) (a : Act) (w : World), r.Pairwise (· < ·) → i ∈ r → NoEdge oi r → (∀ x ∈ r, x < i → L.ms.contains x = false) → far L P ops Q r a w →
    if Region.wanted oi (yielded ops a.tmps) = true then Moves P oi a w (fun v w' => L.C (L.ms.idxOf i + 1) w' ∧ far L P ops Q (r.filter (· != i)) (a.put oi.dst v) w')
    else L.C (L.ms.idxOf i + 1) w ∧ far L P ops Q (r.filter (· != i)) (a.put oi.dst undef) w := by
  intro r
  induction r with
  | nil => intro a w _ hi; cases hi
  | cons x r ih =>
    intro a w hp hi hn hlow hf
    have hp' := List.pairwise_cons.1 hp
    by_cases hxi : x = i
    · subst hxi
      have hfil : (x :: r).filter (· != x) = r := by
        rw [List.filter_cons_of_neg (by simp)]
        rw [List.filter_eq_self]
        intro y hy
        have := hp'.1 y hy
        simp; omega
      rw [hfil]
      obtain ⟨o, ho, h⟩ := hf
      rw [hoi] at ho
      cases ho
      by_cases hw : Region.wanted oi (yielded ops a.tmps) = true
      · rw [if_pos hw] at h ⊢
        rw [if_pos hm] at h
        exact h
      · rw [if_neg hw] at h ⊢
        exact ⟨h.1 hm, h.2⟩
    · have hir : i ∈ r := by rcases List.mem_cons.1 hi with h | h; exact absurd h.symm hxi; exact h
      have hn' : NoEdge oi r := fun y hy => hn y (List.mem_cons_of_mem _ hy)
      have hlow' : ∀ y ∈ r, y < i → L.ms.contains y = false := fun y hy => hlow y (List.mem_cons_of_mem _ hy)
      have hmx := hlow x List.mem_cons_self (hp'.1 i hir)
      obtain ⟨ox, hox, vx, hyx, hf'⟩ := (far_read_iff hmx).1 hf
      have hap := apart_of G (hp'.1 i hir) hox hoi hn (List.mem_cons_self)
      obtain ⟨h1, h2, h3⟩ := Oper.apart_spec hap
      have hsi := fun cs b => G.sel i oi cs b hoi
      have hsx := fun cs b => G.sel x ox cs b hox
      have H := ih (a.put ox.dst vx) w hp'.2 hir hn' hlow' hf'
      rw [wanted_put oi a ox.dst vx h1] at H
      have step : ∀ u w', far L P ops Q (r.filter (· != i)) ((a.put ox.dst vx).put oi.dst u) w' → far L P ops Q ((x :: r).filter (· != i)) (a.put oi.dst u) w' := fun u w' hh => by
        rw [List.filter_cons_of_pos (by simpa using hxi)]
        refine (far_read_iff hmx).2 ⟨ox, hox, vx, (Ystep.put hsx oi.dst u h3).2 hyx, ?_⟩
        rw [← Act.put_comm a vx u h2]
        exact hh
      split
      · rename_i hw
        rw [if_pos hw] at H
        exact (H.same (execOp_put oi hsi a ox.dst vx h1).symm).mono fun u w' hh => ⟨hh.1, step u w' hh.2⟩
      · rename_i hw
        rw [if_neg hw] at H
        exact ⟨H.1, step undef w H.2⟩
end

/-- The operations that have not come up. -/
def left (ops : Array Oper) (listed : Array Bool) : List Nat := (List.range ops.size).filter fun i => !listed.getD i true

theorem mem_left {listed : Array Bool} {i : Nat} : i ∈ left ops listed ↔ i < ops.size ∧ listed.getD i true = false := by
  unfold left
  rw [List.mem_filter, List.mem_range, Bool.not_eq_true']

theorem left_set {listed : Array Bool} {i : Nat} (hi : i < listed.size) : left ops (listed.setIfInBounds i true) = (left ops listed).filter (· != i) := by
  unfold left
  rw [List.filter_filter]
  apply List.filter_congr
  intro x _
  by_cases hxi : x = i
  · subst hxi; simp [hi]
  · rw [getD_set_ne true (Ne.symm hxi)]
    simp [hxi]

theorem left_up (listed : Array Bool) : (left ops listed).Pairwise (· < ·) := List.pairwise_lt_range.filter _

theorem idxOf_getD {l : List Nat} (h : ∀ a b, a < b → b < l.length → l.getD a 0 < l.getD b 0) {i : Nat} (hi : l.contains i = true) : l.idxOf i < l.length ∧ l.getD (l.idxOf i) 0 = i := by
  have hm : i ∈ l := by simpa using hi
  have hlt := List.idxOf_lt_length_iff.2 hm
  refine ⟨hlt, ?_⟩
  rw [List.getD_eq_getElem?_getD, List.getElem?_eq_getElem hlt]
  simp

theorem far_any {L : Plan} (G : Good L ops) {Q : Exit → Act → World → Prop} : ∀ (fuel : Nat) (listed : Array Bool) (a : Act) (w : World) (k : Nat), listed.size = ops.size → (left ops listed).length = fuel → Closed ops listed → Phase L listed k → L.C k w →
    far L P ops (fun a w => Q .normal a w) (left ops listed) a w → wpAny P .any ops Q fuel listed a w := by
  intro fuel
  have noneReady : ∀ listed : Array Bool, listed.size = ops.size → Region.ready .any ops listed = [] → left ops listed = [] := by
    intro listed hsz hr
    cases hl : left ops listed with
    | nil => rfl
    | cons x r =>
      exfalso
      have hx : x ∈ left ops listed := by rw [hl]; exact List.mem_cons_self
      obtain ⟨hxs, hxl⟩ := mem_left.1 hx
      have : x ∈ Region.ready .any ops listed := by
        refine mem_ready.2 ⟨hxl, ops[x], by simp [hxs], fun e he hb => ?_⟩
        have hlt := G.low x ops[x] e (by simp [hxs]) he hb
        cases hv : listed.getD e.on false with
        | true => rfl
        | false =>
          exfalso
          have hin : e.on ∈ left ops listed := by
            refine mem_left.2 ⟨by omega, ?_⟩
            have h1 : e.on < listed.size := by omega
            simp [h1] at hv ⊢
            exact hv
          have hup := left_up (ops := ops) listed
          rw [hl] at hup hin
          rcases List.mem_cons.1 hin with h | h
          · omega
          · have := (List.pairwise_cons.1 hup).1 _ h; omega
      rw [hr] at this
      cases this
  induction fuel with
  | zero =>
    intro listed a w k hsz hlen hcl hph hC hf
    have hnil : left ops listed = [] := List.eq_nil_of_length_eq_zero hlen
    rw [hnil] at hf
    refine ⟨?_, hf⟩
    cases hr : Region.ready .any ops listed with
    | nil => rfl
    | cons x r =>
      have hx : x ∈ Region.ready .any ops listed := by rw [hr]; exact List.mem_cons_self
      obtain ⟨h1, o, ho, _⟩ := mem_ready.1 hx
      have : x ∈ left ops listed := mem_left.2 ⟨(Array.getElem?_eq_some_iff.1 ho).1, h1⟩
      rw [hnil] at this
      cases this
  | succ fuel ih =>
    intro listed a w k hsz hlen hcl hph hC hf
    refine ⟨fun hr => ?_, fun i hi => ?_⟩
    · have := noneReady listed hsz hr
      rw [this] at hlen
      simp at hlen
    · obtain ⟨hun, oi, hoi, hall⟩ := mem_ready.1 hi
      have his : i < ops.size := (Array.getElem?_eq_some_iff.1 hoi).1
      have hir : i ∈ left ops listed := mem_left.2 ⟨his, hun⟩
      have hup := left_up (ops := ops) listed
      have unl : ∀ x, x < ops.size → listed.getD x true = false → listed.getD x false = false := fun x hx h => by
        have h1 : x < listed.size := by omega
        simp [h1] at h ⊢
        exact h
      have hn : NoEdge oi (left ops listed) := fun x hx e he hb hex => by
        have h1 := hall e he hb
        obtain ⟨hxs, hxl⟩ := mem_left.1 hx
        rw [hex, unl x hxs hxl] at h1
        cases h1
      have hlen' : (left ops (listed.setIfInBounds i true)).length = fuel := by
        rw [left_set (by omega)]
        have hnd : (left ops listed).Nodup := List.Pairwise.filter _ List.nodup_range
        have e1 : (left ops listed).filter (· != i) = (left ops listed).erase i := (hnd.erase_eq_filter i).symm
        rw [e1, List.length_erase_of_mem hir, hlen]
        rfl
      have hcl' : Closed ops (listed.setIfInBounds i true) := by
        intro x o hx ho e he hb
        by_cases hxi : i = x
        · subst hxi
          rw [hoi] at ho
          cases ho
          exact getD_set_true (hall e he hb)
        · rw [getD_set_ne false hxi] at hx
          exact getD_set_true (hcl x o hx ho e he hb)
      have hsz' : (listed.setIfInBounds i true).size = ops.size := by simp [hsz]
      have seti : (listed.setIfInBounds i true).getD i false = true := by simp [show i < listed.size by omega]
      cases hm : L.ms.contains i with
      | false =>
        have hwin : L.win i k = true := by
          unfold Plan.win
          simp only [Bool.and_eq_true, decide_eq_true_eq]
          refine ⟨hph.1, List.all_eq_true.2 fun j hj => ?_⟩
          have hj' := List.mem_range.1 hj
          have hmj := G.msLt j hj'
          simp only [Bool.and_eq_true, Bool.or_eq_true, Bool.not_eq_true', decide_eq_true_eq]
          constructor
          · cases ht : (L.tab.getD i 0).testBit (L.ms.getD j 0) with
            | false => exact .inl rfl
            | true => exact .inr ((hph.2 j hj').1 (reach G hcl i oi _ hoi hall hmj ht))
          · cases ht : (L.tab.getD (L.ms.getD j 0) 0).testBit i with
            | false => exact .inl rfl
            | true =>
              refine .inr (Nat.le_of_not_lt fun hlt => ?_)
              have hlst := (hph.2 j hj').2 hlt
              have ho : ops[L.ms.getD j 0]? = some ops[L.ms.getD j 0] := by simp
              have := reach G hcl (L.ms.getD j 0) _ i ho (hcl _ _ hlst ho) his ht
              rw [unl i his hun] at this
              cases this
        obtain ⟨v, hv⟩ := peek G hoi hm _ a w hup hir hn hf
        have hpre := prefill G hoi hm hwin hC _ a w hup hir hn hv hf
        rw [← left_set (by omega)] at hpre
        have hph' : Phase L (listed.setIfInBounds i true) k := by
          refine ⟨hph.1, fun j hj => ?_⟩
          have hne : i ≠ L.ms.getD j 0 := fun e => by
            have : L.ms.contains i = true := by
              rw [e, List.getD_eq_getElem?_getD, List.getElem?_eq_getElem hj]
              simp
            rw [hm] at this
            cases this
          rw [getD_set_ne false hne]
          exact hph.2 j hj
        have hnext := ih _ (a.put oi.dst v) w k hsz' hlen' hcl' hph' hC hpre
        unfold wpOp
        simp only [hoi]
        rcases hv with ⟨hw, hy⟩ | ⟨hw, rfl⟩
        · rw [if_pos hw]
          refine .inl ?_
          unfold Oper.wp
          rcases hy k w hwin hC with e | ⟨e, rfl⟩ <;> rw [e] <;> exact hnext
        · rw [if_neg (by rw [hw]; exact Bool.false_ne_true)]
          exact hnext
      | true =>
        obtain ⟨hjl, hji⟩ := idxOf_getD G.msUp hm
        have hunf := unl i his hun
        have hkj : k ≤ L.ms.idxOf i := by
          refine Nat.le_of_not_lt fun hlt => ?_
          have := (hph.2 _ hjl).2 hlt
          rw [hji, hunf] at this
          cases this
        have hjk : ∀ h, h < L.ms.idxOf i → h < k := fun h hh => by
          have ht := G.chain h _ hh hjl
          rw [hji] at ht
          exact (hph.2 h (by omega)).1 (reach G hcl i oi _ hoi hall (G.msLt h (by omega)) ht)
        have hlow : ∀ x ∈ left ops listed, x < i → L.ms.contains x = false := fun x hx hxi => by
          cases hmx : L.ms.contains x with
          | false => rfl
          | true =>
            exfalso
            obtain ⟨hxl, hxe⟩ := idxOf_getD G.msUp hmx
            have hlt : L.ms.idxOf x < L.ms.idxOf i := by
              refine Nat.lt_of_not_le fun hge => ?_
              rcases Nat.lt_or_eq_of_le hge with h | h
              · have := G.msUp _ _ h hxl; rw [hji, hxe] at this; omega
              · rw [h, hxe] at hji; omega
            have := (hph.2 _ hxl).2 (hjk _ hlt)
            rw [hxe, unl x (mem_left.1 hx).1 (mem_left.1 hx).2] at this
            cases this
        have hph' : Phase L (listed.setIfInBounds i true) (L.ms.idxOf i + 1) := by
          refine ⟨hjl, fun j hj => ?_⟩
          by_cases hij : j = L.ms.idxOf i
          · subst hij
            rw [hji]
            exact ⟨fun _ => Nat.lt_succ_self _, fun _ => seti⟩
          · have hne : i ≠ L.ms.getD j 0 := fun e => by
              rcases Nat.lt_or_gt_of_ne hij with h | h
              · have := G.msUp _ _ h hjl; rw [hji, ← e] at this; omega
              · have := G.msUp _ _ h hj; rw [hji, ← e] at this; omega
            rw [getD_set_ne false hne]
            constructor
            · intro hx
              have := (hph.2 j hj).1 hx
              omega
            · intro hx
              exact (hph.2 j hj).2 (hjk j (by omega))
        have H := hop G hoi hm _ a w hup hir hn hlow hf
        unfold wpOp
        simp only [hoi]
        split
        · rename_i hw
          rw [if_pos hw] at H
          refine .inl (H.wp fun v w' hh => ?_)
          rw [← left_set (by omega)] at hh
          exact ih _ _ w' _ hsz' hlen' hcl' hph' hh.1 hh.2
        · rename_i hw
          rw [if_neg hw, ← left_set (by omega)] at H
          exact ih _ _ w _ hsz' hlen' hcl' hph' H.1 H.2

/-- ONE WALK FOR EVERY ORDER. -/
theorem region_far (L : Plan) {id : Nat} {Q : Exit → Act → World → Prop} {a : Act} {w : World} {l : List Oper} (hm : P.follows .mixedOrders = true) (hB : planB l.toArray L.ms L.tab = true) (hC : L.C 0 w.drew)
    (h : far L P l.toArray (fun a w => Q .normal a w) (List.range l.length) a w.drew) : (Code.region id l.toArray true).wp P Q a w := by
  have G := good_of hB
  have hlist : ∀ x, (Array.replicate l.toArray.size false).getD x false = false := fun x => by simp [Array.getElem?_replicate]; split <;> rfl
  have hleft : left l.toArray (Array.replicate l.toArray.size false) = List.range l.length := by
    unfold left
    rw [List.filter_eq_self.2]
    · simp
    · intro x hx
      have := List.mem_range.1 hx
      simp at this
      simp [this]
  refine wp_region_any hm (far_any G _ _ a w.drew 0 (by simp) ?_ ?_ ?_ hC ?_)
  · rw [hleft]; simp
  · intro i o hi
    rw [hlist] at hi
    cases hi
  · refine ⟨Nat.zero_le _, fun j hj => ?_⟩
    rw [hlist]
    simp
  · rw [hleft]; exact h

/-- Operations that enter no function, spawn and ask nothing. -/
def plainOp : Op → Bool
  | .move _ | .assign _ | .pick .. | .load .. | .binOp .. | .unOp .. | .convert .. | .slice .. | .fieldAddr .. | .field .. | .indexAddr .. | .index .. | .extract .. | .lookup .. | .build .. | .nilCheck _ => true
  | .call c => match c.callee with
    | .builtin .len => true
    | .builtin .cap => true
    | .builtin .max => true
    | .builtin .min => true
    | _ => false
  | _ => false

theorem value_only {r : Result Value} {f : FuncId} {args : Array Value} {w' : World} : (r.andThen fun a w' => Result.ok (Next.value a) w') ≠ Result.ok (Next.enter f args) w' := by
  cases r <;> simp [Result.andThen]

theorem plain_stays {o : Oper} (h : plainOp o.op = true) (ρ : Operand → Value) (w : World) (f : FuncId) (args : Array Value) (w' : World) : (execOp ρ o).run P w ≠ .ok (.enter f args) w' := by
  obtain ⟨dst, op, type, pos, after, guard⟩ := o
  simp only at h
  cases op <;> simp only [plainOp] at h <;> try (cases h; done)
  case call c =>
    obtain ⟨callee, cargs, ctypes⟩ := c
    cases callee <;> simp only at h <;> try (cases h; done)
    case builtin b =>
      cases b <;> simp only at h <;> try (cases h; done)
      all_goals
        unfold execOp
        simp only [resolve, invoke, builtin, Sem.run_bind, Sem.run_pure, Result.andThen_ok]
        exact value_only
  case nilCheck x =>
    unfold execOp
    simp only
    generalize ρ x = y
    split
    · simp [runtimePanic]
    · simp [runtimePanic]
    · simp [runtimePanic]
    · split
      · simp [runtimePanic]
      · rename_i t v _
        simp only [Sem.run_bind]
        simp
        generalize Sem.run P (nilAhead _ _ _ _) w = z
        cases z with
        | ok b w2 =>
          simp only [Result.andThen]
          split
          · simp
          · simp
        | halt x w2 => simp [Result.andThen]
      · simp
    · simp
  case pick c a b =>
    unfold execOp
    simp only [Sem.run_bind, Sem.run_pure]
    cases (asBool (ρ c)).run P w <;> simp [Result.andThen]
  all_goals
    unfold execOp
    simp only [Sem.run_bind, Sem.run_pure]
    first
      | exact value_only
      | (simp; done)

/-- The walk over the operations themselves, k the first one's number. -/
def farO (L : Plan) (P : Program) (ops : Array Oper) (Q : Act → World → Prop) : Nat → List Oper → Act → World → Prop
  | _, [], a, w => Q a w
  | k, o :: r, a, w =>
      if Region.wanted o (yielded ops a.tmps) = true then
        if L.ms.contains k = true then Moves P o a w (fun v w' => L.C (L.ms.idxOf k + 1) w' ∧ farO L P ops Q (k + 1) r (a.put o.dst v) w')
        else ∃ v, L.yields P k o a v ∧ farO L P ops Q (k + 1) r (a.put o.dst v) w
      else (L.ms.contains k = true → L.C (L.ms.idxOf k + 1) w) ∧ farO L P ops Q (k + 1) r (a.put o.dst undef) w

theorem far_of {L : Plan} {Q : Act → World → Prop} : ∀ (r : List Oper) (k : Nat) (a : Act) (w : World), (∀ j, r[j]? = ops[k + j]?) → farO L P ops Q k r a w → far L P ops Q (List.range' k r.length) a w
  | [], k, a, w, _, h => h
  | o :: r, k, a, w, hl, h => by
    have h0 : ops[k]? = some o := by simpa using (hl 0).symm
    have hr : ∀ j, r[j]? = ops[k + 1 + j]? := fun j => by have := hl (j + 1); simpa [Nat.add_assoc, Nat.add_comm 1 j] using this
    refine ⟨o, h0, ?_⟩
    simp only [farO] at h
    split
    · rename_i hw
      rw [if_pos hw] at h
      split
      · rename_i hm
        rw [if_pos hm] at h
        exact h.mono fun v w' hh => ⟨hh.1, far_of r (k + 1) _ _ hr hh.2⟩
      · rename_i hm
        rw [if_neg hm] at h
        obtain ⟨v, hy, hf⟩ := h
        exact ⟨v, hy, far_of r (k + 1) _ _ hr hf⟩
    · rename_i hw
      rw [if_neg hw] at h
      exact ⟨h.1, far_of r (k + 1) _ _ hr h.2⟩

/-- ONE WALK FOR EVERY ORDER, over the operations as they are written out. -/
theorem region_farO (L : Plan) {id : Nat} {Q : Exit → Act → World → Prop} {a : Act} {w : World} {l : List Oper} (hm : P.follows .mixedOrders = true) (hB : planB l.toArray L.ms L.tab = true) (hC : L.C 0 w.drew)
    (h : farO L P l.toArray (fun a w => Q .normal a w) 0 l a w.drew) : (Code.region id l.toArray true).wp P Q a w := by
  refine region_far L hm hB hC ?_
  have := far_of (L := L) (P := P) (ops := l.toArray) l 0 a w.drew (fun j => by simp) h
  rwa [← List.range_eq_range'] at this

/-- A stretch of operations that are no movers: walked by the quiet walk, over the worlds of which p holds; the first n. -/
theorem farO_seg {L : Plan} {Q : Act → World → Prop} (p : World → Prop) : ∀ (n : Nat) (l : List Oper) (k : Nat) (a : Act) (w : World),
    ((List.range n).all fun j => !L.ms.contains (k + j) && (match l[j]? with | some o => plainOp o.op | none => false)) = true → (∀ j, j < n → ∀ κ w', L.win (k + j) κ = true → L.C κ w' → p w') →
    wpQuiet P ops (fun w' => ∃ x : InC p, w' = x.w) (fun a' => farO L P ops Q (k + n) (l.drop n) a' w) (l.take n) a → farO L P ops Q k l a w := by
  intro n
  induction n with
  | zero => intro l k a w _ _ h; simpa [wpQuiet] using h
  | succ n ih =>
    intro l k a w hB hp h
    cases l with
    | nil =>
      have := List.all_eq_true.1 hB 0 (List.mem_range.2 (by omega))
      simp at this
    | cons o l =>
      have h0 := List.all_eq_true.1 hB 0 (List.mem_range.2 (by omega))
      simp only [Nat.add_zero, List.getElem?_cons_zero, Bool.and_eq_true, Bool.not_eq_true'] at h0
      have hB' : ((List.range n).all fun j => !L.ms.contains (k + 1 + j) && (match l[j]? with | some o => plainOp o.op | none => false)) = true := by
        refine List.all_eq_true.2 fun j hj => ?_
        have := List.all_eq_true.1 hB (j + 1) (List.mem_range.2 (by have := List.mem_range.1 hj; omega))
        simpa [Nat.add_assoc, Nat.add_comm 1 j] using this
      have hp' : ∀ j, j < n → ∀ κ w', L.win (k + 1 + j) κ = true → L.C κ w' → p w' := fun j hj κ w' h1 h2 => hp (j + 1) (by omega) κ w' (by simpa [Nat.add_assoc, Nat.add_comm 1 j] using h1) h2
      have next : ∀ a', wpQuiet P ops (fun w' => ∃ x : InC p, w' = x.w) (fun a' => farO L P ops Q (k + (n + 1)) ((o :: l).drop (n + 1)) a' w) (l.take n) a' → farO L P ops Q (k + 1) l a' w := fun a' h' =>
        ih l (k + 1) a' w hB' hp' (by simpa [Nat.add_assoc, Nat.add_comm 1 n] using h')
      rw [List.take_succ_cons] at h
      simp only [wpQuiet] at h
      simp only [farO]
      split
      · rename_i hw
        rw [if_pos hw] at h
        rw [if_neg (by rw [h0.1]; exact Bool.false_ne_true)]
        obtain ⟨v, hv, hn⟩ := h
        refine ⟨v, fun κ w' hκ hC => ?_, next _ hn⟩
        have hpw : p w' := hp 0 (by omega) κ w' (by simpa using hκ) hC
        have := hv w' ⟨⟨w', hpw⟩, rfl⟩
        unfold Oper.quietAt at this
        have hno := plain_stays (P := P) h0.2 a.eval w'
        generalize (execOp a.eval o).run P w' = r at *
        cases r with
        | ok x w2 =>
          cases x <;> simp only [Oper.quietUpon] at this
          case value u => obtain ⟨rfl, rfl⟩ := this; exact .inl rfl
          case skip => obtain ⟨rfl, rfl⟩ := this; exact .inr ⟨rfl, rfl⟩
          case enter f args => exact absurd rfl (hno f args w2)
        | halt x w2 => simp only [Oper.quietUpon] at this
      · rename_i hw
        rw [if_neg hw] at h
        exact ⟨fun hh => (by rw [h0.1] at hh; cases hh), next _ h⟩

/-- A mover that is a call. -/
theorem farO_call {L : Plan} {Q : Act → World → Prop} {k : Nat} {o : Oper} {r : List Oper} {a : Act} {w : World} (f : FuncId) (args : Array Value) (hm : L.ms.contains k = true) (hw : Region.wanted o (yielded ops a.tmps) = true) (hrun : (execOp a.eval o).run P w = .ok (.enter f args) w)
    (h : Calls P f args w (fun e w' => ∃ v, e = .returned v ∧ L.C (L.ms.idxOf k + 1) w' ∧ farO L P ops Q (k + 1) r (a.put o.dst v) w')) : farO L P ops Q k (o :: r) a w := by
  simp only [farO]
  rw [if_pos hw, if_pos hm]
  unfold Moves
  rw [hrun]
  exact h

/-- A mover that its guard passes over. -/
theorem farO_over {L : Plan} {Q : Act → World → Prop} {k : Nat} {o : Oper} {r : List Oper} {a : Act} {w : World} (hw : Region.wanted o (yielded ops a.tmps) = false) (hC : L.C (L.ms.idxOf k + 1) w)
    (h : farO L P ops Q (k + 1) r (a.put o.dst undef) w) : farO L P ops Q k (o :: r) a w := by
  simp only [farO]
  rw [if_neg (by rw [hw]; exact Bool.false_ne_true)]
  exact ⟨fun _ => hC, h⟩

theorem farO_nil {L : Plan} {Q : Act → World → Prop} {k : Nat} {a : Act} {w : World} (h : Q a w) : farO L P ops Q k [] a w := h

/-- The same, the table made of the operations themselves. -/
theorem region_farM (C : Nat → World → Prop) (ms : List Nat) {id : Nat} {Q : Exit → Act → World → Prop} {a : Act} {w : World} {l : List Oper} (hm : P.follows .mixedOrders = true) (hB : planB l.toArray ms (mkTab l.toArray) = true) (hC : C 0 w.drew)
    (h : ∀ L : Plan, L.C = C → L.ms = ms → L.tab = mkTab l.toArray → farO L P l.toArray (fun a w => Q .normal a w) 0 l a w.drew) : (Code.region id l.toArray true).wp P Q a w :=
  region_farO ⟨C, ms, mkTab l.toArray⟩ hm hB hC (h _ rfl rfl rfl)

/-- When may the operations of a stretch come up? -/
def stretchB (ms tab : List Nat) (k n lo hi : Nat) : Bool :=
  (List.range n).all fun j => !ms.contains (k + j) && (List.range (ms.length + 1)).all fun κ => !(Plan.win ⟨fun _ _ => True, ms, tab⟩ (k + j) κ) || (decide (lo ≤ κ) && decide (κ ≤ hi))

def plainB (n : Nat) (l : List Oper) : Bool := (List.range n).all fun j => match l[j]? with | some o => plainOp o.op | none => false

/-- A stretch of n operations that are no movers and come up only when lo to hi movers have. -/
theorem farO_stretch {L : Plan} {Q : Act → World → Prop} (p : World → Prop) (n lo hi : Nat) {l : List Oper} {k : Nat} {a : Act} {w : World} {C : Nat → World → Prop} {ms tab : List Nat} (h1 : L.C = C) (h2 : L.ms = ms) (h3 : L.tab = tab)
    (hB : stretchB ms tab k n lo hi = true) (hpl : plainB n l = true) (hp : ∀ κ w', lo ≤ κ → κ ≤ hi → C κ w' → p w')
    (h : wpQuiet P ops (fun w' => ∃ x : InC p, w' = x.w) (fun a' => farO L P ops Q (k + n) (l.drop n) a' w) (l.take n) a) : farO L P ops Q k l a w := by
  have hwin : ∀ i κ, L.win i κ = Plan.win ⟨fun _ _ => True, ms, tab⟩ i κ := fun i κ => by unfold Plan.win; rw [h2, h3]
  refine farO_seg p n l k a w ?_ ?_ h
  · refine List.all_eq_true.2 fun j hj => ?_
    have e1 := List.all_eq_true.1 hB j hj
    have e2 := List.all_eq_true.1 hpl j hj
    simp only [Bool.and_eq_true] at e1 ⊢
    rw [h2]
    exact ⟨e1.1, e2⟩
  · intro j hj κ w' hk hC
    have e1 := List.all_eq_true.1 hB j (List.mem_range.2 hj)
    simp only [Bool.and_eq_true] at e1
    rw [hwin] at hk
    have hle : κ ≤ ms.length := by
      unfold Plan.win at hk
      simp only [Bool.and_eq_true, decide_eq_true_eq] at hk
      exact hk.1
    have e2 := List.all_eq_true.1 e1.2 κ (List.mem_range.2 (by omega))
    simp only [hk, Bool.not_true, Bool.false_or, Bool.and_eq_true, decide_eq_true_eq] at e2
    rw [h1] at hC
    exact hp κ w' e2.1 e2.2 hC

/-- A call among the movers: the j-th. -/
theorem farO_enter {L : Plan} {Q : Act → World → Prop} {k : Nat} {o : Oper} {r : List Oper} {a : Act} {w : World} {C : Nat → World → Prop} {ms : List Nat} (h1 : L.C = C) (h2 : L.ms = ms) (j : Nat) (hj : ms.contains k = true) (hj' : ms.idxOf k = j)
    (f : FuncId) (args : Array Value) (hw : Region.wanted o (yielded ops a.tmps) = true) (hrun : (execOp a.eval o).run P w = .ok (.enter f args) w)
    (h : Calls P f args w (fun e w' => ∃ v, e = .returned v ∧ C (j + 1) w' ∧ farO L P ops Q (k + 1) r (a.put o.dst v) w')) : farO L P ops Q k (o :: r) a w := by
  refine farO_call f args (by rw [h2]; exact hj) hw hrun ?_
  rw [h1, h2, hj']
  exact h
end
end Go.Proofs.Ytfhpdcimdeilpaa.far
