/- The state of the document's Plan: between two buckets, and within one. -/
import Derived.Test.YtkaohjlnlgennaaLws
import Derived.Test.YtkaohjlnlgennaaRmy
import Derived.Test.YtkaohjlnlgennaaRpp
namespace Go.Proofs.Ytkaohjlnlgennaa.st
open Go.ChangeShapes Go.WideShapes Go.ChangeAt Go.RowKit Go.Proofs.Ytkaohjlnlgennaa.hp Go.Proofs.Ytkaohjlnlgennaa.tm Go.Proofs.Ytkaohjlnlgennaa.ev
set_option linter.unusedVariables false
set_option linter.unusedSimpArgs false

/-- Between two buckets. -/
structure Rst (w0 : World) (g : Nat) (lv : Value) (R : List Int) (xs : List FV) (W : World) : Prop where
  row : W.heap[g]? = some (.cells (xs.flatMap ff).toArray 62 (0, 0))
  lef : W.ownsRow w0.heap.size 3 1 lv R.length (R.map (Value.int .i64))
  lg : lv.ownBlock ≠ some g
  dat : ∀ x ∈ xs, W.ownsRow w0.heap.size 3 1 x.v x.d.length (x.d.map (Value.int .i64)) ∧ x.v.ownBlock ≠ some g
  gl : w0.heap.size ≤ g
  chg : Chg no w0 W

/-- Within one: what lies in it, who is left. -/
structure Itr (W1 : World) (g i : Nat) (b : Int) (xs : List FV) (vi : Value) (T : List Int) (rv : Value) (Rr : List Int) (W : World) : Prop where
  chg : Chg (fun k => k = g) W1 W
  row : W.heap[g]? = some (.cells ((xs.set i ⟨b, vi, T⟩).flatMap ff).toArray 62 (0, 0))
  idr : W.ownsRow W1.heap.size 3 1 vi T.length (T.map (Value.int .i64))
  rst : W.ownsRow W1.heap.size 3 1 rv Rr.length (Rr.map (Value.int .i64))
  sep : ∀ k, vi.ownBlock = some k → rv.ownBlock ≠ some k
  gl : g < W1.heap.size

theorem setf1 (xs : List FV) (i : Nat) (b : Int) (d : List Int) (v : Value) (hv : (xs.getD i dFV).v = v) : (xs.flatMap ff).set (i * 2) (.int .i64 b) = (xs.set i ⟨b, v, d⟩).flatMap ff := by
  subst hv
  induction xs generalizing i with
  | nil => simp
  | cons y xs ih =>
    cases i with
    | zero => simp [ff]
    | succ i =>
      have e1 : (i + 1) * 2 = i * 2 + 1 + 1 := by omega
      have ih2 := ih i
      simp only [List.getD_cons_succ]
      rw [List.flatMap_cons, List.set_cons_succ, List.flatMap_cons, ← ih2, e1]
      simp [ff]

theorem setf2 (xs : List FV) (i : Nat) (b : Int) (v v' : Value) (T T' : List Int) : ((xs.set i ⟨b, v, T⟩).flatMap ff).set (i * 2 + 1) v' = (xs.set i ⟨b, v', T'⟩).flatMap ff := by
  induction xs generalizing i with
  | nil => simp
  | cons y xs ih =>
    cases i with
    | zero => simp [ff]
    | succ i =>
      have e1 : (i + 1) * 2 + 1 = i * 2 + 1 + 1 + 1 := by omega
      rw [List.set_cons_succ, List.flatMap_cons, List.set_cons_succ, List.flatMap_cons, ← ih i, e1]
      simp [ff]

section
variable {w0 W1 W W2 W3 : World} {g i : Nat} {b : Int} {xs : List FV} {lv vi rv : Value} {R T Rr : List Int}

theorem Rst.own (p : Rst w0 g lv R xs W) (k : Chg no W W2) : Rst w0 g lv R xs W2 :=
  ⟨k.heap p.row (fun h => h), k.owns p.lef (fun _ _ h => h), p.lg, fun x hx => ⟨k.owns (p.dat x hx).1 (fun _ _ h => h), (p.dat x hx).2⟩, p.gl, p.chg.then k⟩

theorem Rst.enter (p : Rst w0 g lv R xs W) (hi : (xs.getD i dFV).v = .slice none 0 0) (b : Int) : Itr W g i b xs (.slice none 0 0) [] (.slice none 0 0) [] (W.setCell ⟨g, i * 2, none⟩ (.int .i64 b)) := by
  have c0 : Chg (fun k => k = g) W (W.setCell ⟨g, i * 2, none⟩ (.int .i64 b)) := (Chg.refl _ W).setCell _ _ (.inl rfl)
  have r0 := row_set p.row (i * 2) (.int .i64 b)
  rw [setf1 xs i b [] _ hi] at r0
  exact ⟨c0, r0, World.ownsRow_nil _ _ _ _, World.ownsRow_nil _ _ _ _, fun k hk => by simp [Value.ownBlock] at hk, lt_of_block p.row⟩

theorem Itr.own (p : Itr W1 g i b xs vi T rv Rr W) (k : Chg no W W2) : Itr W1 g i b xs vi T rv Rr W2 :=
  ⟨p.chg.then (k.of_no _), k.heap p.row (fun h => h), k.owns p.idr (fun _ _ h => h), k.owns p.rst (fun _ _ h => h), p.sep, p.gl⟩

/-- One finds room. -/
theorem Itr.take (p : Itr W1 g i b xs vi T rv Rr W) (k : Chg no W W2) {v' : Value} {n : Nat} (hn : T.length = n) (x : Int) (o : W3.ownsRow 0 3 1 v' (n + 1) (T.map (Value.int .i64) ++ [.int .i64 x])) (gr : W2.grownBy W3 vi.ownBlock) (pl : ∀ b, v'.ownBlock = some b → vi.ownBlock = some b ∨ W2.heap.size ≤ b) :
    Itr W1 g i b xs v' (T ++ [x]) rv Rr (W3.setCell ⟨g, i * 2 + 1, none⟩ v') := by
  subst hn
  have q := p.own k
  have s0 := p.chg.size
  have s1 := k.size
  have s2 := gr.size
  have C : Chg (fun k => vi.ownBlock = some k) W2 W3 := (Chg.refl _ W2).grown gr fun k hk => .inl hk
  have hvi : ∀ k, vi.ownBlock = some k → W1.heap.size ≤ k ∧ k < W.heap.size := fun k hk => p.idr.lt k hk
  have hrv : ∀ k, rv.ownBlock = some k → W1.heap.size ≤ k ∧ k < W.heap.size := fun k hk => p.rst.lt k hk
  have hg := p.gl
  have c1 : Chg (fun k => k = g) W1 W3 := q.chg.trans C fun k hk => .inr (hvi k hk).1
  have r1 : W3.heap[g]? = some (.cells ((xs.set i ⟨b, vi, T⟩).flatMap ff).toArray 62 (0, 0)) := C.heap q.row fun e => by have := (hvi g e).1; omega
  have cE : Chg (fun k => k = g) W3 (W3.setCell ⟨g, i * 2 + 1, none⟩ v') := (Chg.refl _ W3).setCell _ _ (.inl rfl)
  have o1 : W3.ownsRow W1.heap.size 3 1 v' (T ++ [x]).length ((T ++ [x]).map (Value.int .i64)) := by
    have e1 : (T ++ [x]).length = T.length + 1 := by simp
    have e2 : (T ++ [x]).map (Value.int .i64) = T.map (Value.int .i64) ++ [.int .i64 x] := by simp
    rw [e1, e2]
    refine ⟨o.1, ?_⟩
    rcases o.2 with hh | ⟨bb, cap, cur, hv, _, rest⟩
    · exact .inl hh
    · refine .inr ⟨bb, cap, cur, hv, ?_, rest⟩
      rcases pl bb (by rw [hv]; rfl) with e | e
      · exact (hvi bb e).1
      · omega
  have r2 := row_set r1 (i * 2 + 1) v'
  rw [setf2 xs i b vi v' T (T ++ [x])] at r2
  refine ⟨c1.then cE, r2, cE.owns o1 fun k hk e => ?_, cE.owns (C.owns q.rst fun k hk e => p.sep k e hk) fun k hk e => ?_, fun k hk e => ?_, hg⟩
  · have := (o1.lt k hk).1
    omega
  · have := (hrv k hk).1
    omega
  · rcases pl k hk with e1 | e1
    · exact p.sep k e1 e
    · have := (hrv k e).2
      omega

/-- One is left. -/
theorem Itr.leave (p : Itr W1 g i b xs vi T rv Rr W) (k : Chg no W W2) {v' : Value} {n : Nat} (hn : Rr.length = n) (x : Int) (o : W3.ownsRow 0 3 1 v' (n + 1) (Rr.map (Value.int .i64) ++ [.int .i64 x])) (gr : W2.grownBy W3 rv.ownBlock) (pl : ∀ b, v'.ownBlock = some b → rv.ownBlock = some b ∨ W2.heap.size ≤ b) :
    Itr W1 g i b xs vi T v' (Rr ++ [x]) W3 := by
  subst hn
  have q := p.own k
  have s0 := p.chg.size
  have s1 := k.size
  have C : Chg (fun k => rv.ownBlock = some k) W2 W3 := (Chg.refl _ W2).grown gr fun k hk => .inl hk
  have hvi : ∀ k, vi.ownBlock = some k → W1.heap.size ≤ k ∧ k < W.heap.size := fun k hk => p.idr.lt k hk
  have hrv : ∀ k, rv.ownBlock = some k → W1.heap.size ≤ k ∧ k < W.heap.size := fun k hk => p.rst.lt k hk
  have hg := p.gl
  have o1 : W3.ownsRow W1.heap.size 3 1 v' (Rr ++ [x]).length ((Rr ++ [x]).map (Value.int .i64)) := by
    have e1 : (Rr ++ [x]).length = Rr.length + 1 := by simp
    have e2 : (Rr ++ [x]).map (Value.int .i64) = Rr.map (Value.int .i64) ++ [.int .i64 x] := by simp
    rw [e1, e2]
    refine ⟨o.1, ?_⟩
    rcases o.2 with hh | ⟨bb, cap, cur, hv, _, rest⟩
    · exact .inl hh
    · refine .inr ⟨bb, cap, cur, hv, ?_, rest⟩
      rcases pl bb (by rw [hv]; rfl) with e | e
      · exact (hrv bb e).1
      · omega
  refine ⟨q.chg.trans C fun k hk => .inr (hrv k hk).1, C.heap q.row fun e => by have := (hrv g e).1; omega, C.owns q.idr fun k hk e => p.sep k hk e, o1, fun k hk e => ?_, hg⟩
  rcases pl k e with e1 | e1
  · exact p.sep k hk e1
  · have := (hvi k hk).2
    omega

/-- A bucket is through. -/
theorem Itr.done (p : Itr W1 g i b xs vi T rv Rr W) (q : Rst w0 g lv R xs W1) : Rst w0 g rv Rr (xs.set i ⟨b, vi, T⟩) W := by
  have hg := p.gl
  have s0 := q.chg.size
  refine ⟨p.row, owns_base p.rst s0, fun e => by have := (p.rst.lt g e).1; omega, fun x hx => ?_, q.gl, q.chg.trans p.chg fun k hk => .inr (by have := q.gl; omega)⟩
  rcases List.mem_or_eq_of_mem_set hx with hx | rfl
  · exact ⟨p.chg.owns (q.dat x hx).1 fun k hk e => (q.dat x hx).2 (by rw [← e]; exact hk), (q.dat x hx).2⟩
  · exact ⟨owns_base p.idr s0, fun e => by have := (p.idr.lt g e).1; omega⟩
end

end Go.Proofs.Ytkaohjlnlgennaa.st
