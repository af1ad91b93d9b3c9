/- Plan's state between two rounds: its boxes, the row of fills, the items that are left. -/
import Derived.Test.YtkaohjlnlgennaaFil
import Derived.Test.YtkaohjlnlgennaaBkw
namespace Go.Proofs.Ytkaohjlnlgennaa.st
open Go.ChangeShapes Go.WideShapes Go.ChangeAt Go.RowKit Go.Proofs.Ytkaohjlnlgennaa.hp Go.Proofs.Ytkaohjlnlgennaa.tm Go.Proofs.Ytkaohjlnlgennaa.ev
set_option linter.unusedVariables false
set_option linter.unusedSimpArgs false

/-- The block of an address, if it is one. -/
def Blk (a : Option Addr) (k : Nat) : Prop := (Value.slice a 0 0).ownBlock = some k

theorem blk_some {g : Nat} {k : Nat} : Blk (some ⟨g, 0, none⟩) k ↔ k = g := by
  unfold Blk
  simp [Value.ownBlock]
  exact eq_comm
theorem blk_none {k : Nat} : ¬ Blk none k := by
  unfold Blk
  simp [Value.ownBlock]
theorem blk_own {a : Option Addr} {n c k : Nat} : (Value.slice a n c).ownBlock = some k ↔ Blk a k := by
  unfold Blk
  cases a <;> simp [Value.ownBlock]

theorem fill_any (w : World) (h z b : Int) (a : Option Addr) (c n : Nat) (l : List Int) (lf : Int → Int) (hn : l.length = n) (hl : n ≤ 100000)
    (ho : w.ownsRow 0 35 2 (.slice a n c) n ((l.map (itm lf)).flatMap f2)) :
    Calls Try.prog 30 #[.int .i64 h, .int .i64 z, .int .i64 b, .slice a n c] w fun e w' => ∃ iv, e = .returned (.tuple #[iv, .slice a (pick (fun x => onI h b (lf x)) z.toNat l).2.length c]) ∧
      w'.ownsRow w.heap.size 3 1 iv (pick (fun x => onI h b (lf x)) z.toNat l).1.length ((pick (fun x => onI h b (lf x)) z.toNat l).1.map (Value.int .i64)) ∧ Chg (Blk a) w w' ∧
      w'.ownsRow 0 35 2 (.slice a (pick (fun x => onI h b (lf x)) z.toNat l).2.length c) (pick (fun x => onI h b (lf x)) z.toNat l).2.length (((pick (fun x => onI h b (lf x)) z.toNat l).2.map (itm lf)).flatMap f2) := by
  rcases ho.2 with ⟨hv, h0⟩ | ⟨g, cap, cur, hv, _⟩
  · obtain rfl : l = [] := List.eq_nil_of_length_eq_zero (by omega)
    subst h0
    simp only [Value.slice.injEq] at hv
    obtain ⟨rfl, _, rfl⟩ := hv
    have e : pick (fun x => onI h b (lf x)) z.toNat [] = ([], []) := by cases z.toNat <;> rfl
    rw [e]
    clear ho hl hn e
    go_enter Try.func30, Try.ntmps30
    go_wp2_with fail
    go_loopw [10, 11, 18] (fun iv ov i wr => iv = .slice none 0 0 ∧ ov = .slice none 0 0 ∧ i = .int .i64 0 ∧ wr = w) (fun _ _ _ _ => 0)
    case atStart => exact ⟨rfl, rfl, rfl, rfl⟩
    case round =>
      obtain ⟨rfl, rfl, rfl, rfl⟩ := hrel
      go_wp2
      go_returns
      exact ⟨_, rfl, World.ownsRow_nil _ _ _ _, Chg.refl _ _, World.ownsRow_nil _ _ _ _⟩
  · simp only [Value.slice.injEq] at hv
    obtain ⟨rfl, _, rfl⟩ := hv
    refine (fill_some w h z b g c n l lf hn hl ho).mono ?_
    rintro e w' ⟨iv, rfl, ⟨h1, h2⟩, h3⟩
    exact ⟨iv, rfl, h1, h2.mono fun k hk => .inl (blk_some.2 hk), h3⟩

theorem setf (xs : List FV) (i : Nat) (x : FV) : ((xs.flatMap ff).set (i * 2) (.int .i64 x.b)).set (i * 2 + 1) x.v = (xs.set i x).flatMap ff := by
  induction xs generalizing i with
  | nil => simp
  | cons y xs ih =>
    cases i with
    | zero => simp [ff]
    | succ i =>
      have e1 : (i + 1) * 2 = i * 2 + 1 + 1 := by omega
      rw [List.flatMap_cons, List.set_cons_succ, List.flatMap_cons, ← ih i, e1]
      simp [ff]

/-- Where they lie. -/
structure Ad where
  h : Nat
  z : Nat
  l : Nat
  f : Nat
  g : Nat

/-- All are of the call's own, ahead of B1, and apart. -/
structure Ads (w0 : World) (B1 : Nat) (d : Ad) (a : Option Addr) : Prop where
  lo : w0.heap.size ≤ d.h ∧ w0.heap.size ≤ d.z ∧ w0.heap.size ≤ d.l ∧ w0.heap.size ≤ d.f ∧ w0.heap.size ≤ d.g
  hi : d.h < B1 ∧ d.z < B1 ∧ d.l < B1 ∧ d.f < B1 ∧ d.g < B1
  ne : d.h ≠ d.l ∧ d.h ≠ d.g ∧ d.z ≠ d.l ∧ d.z ≠ d.g ∧ d.f ≠ d.l ∧ d.f ≠ d.g ∧ d.l ≠ d.g
  bl : ∀ k, Blk a k → w0.heap.size ≤ k ∧ k < B1 ∧ k ≠ d.h ∧ k ≠ d.z ∧ k ≠ d.l ∧ k ≠ d.f ∧ k ≠ d.g

/-- Between two rounds. -/
structure Pst (w0 : World) (B1 : Nat) (d : Ad) (a : Option Addr) (c : Nat) (h z : Int) (lf : Int → Int) (xs : List FV) (R : List Int) (W : World) : Prop where
  hb : W.heap[d.h]? = some (.cells #[.int .i64 h] 3 (0, 0))
  zb : W.heap[d.z]? = some (.cells #[.int .i64 z] 3 (0, 0))
  lb : W.heap[d.l]? = some (.cells #[.slice a R.length c] 23 (0, 0))
  fb : W.heap[d.f]? = some (.cells #[.slice (some ⟨d.g, 0, none⟩) xs.length xs.length] 26 (0, 0))
  row : W.heap[d.g]? = some (.cells (xs.flatMap ff).toArray 46 (0, 0))
  lef : W.ownsRow 0 35 2 (.slice a R.length c) R.length ((R.map (itm lf)).flatMap f2)
  dat : ∀ x ∈ xs, W.ownsRow B1 3 1 x.v x.d.length (x.d.map (Value.int .i64))
  chg : Chg no w0 W

section
variable {w0 W W' : World} {B1 c : Nat} {d : Ad} {a : Option Addr} {h z : Int} {lf : Int → Int} {xs : List FV} {R : List Int}

theorem Pst.lt (p : Pst w0 B1 d a c h z lf xs R W) : d.h < W.heap.size ∧ d.z < W.heap.size ∧ d.l < W.heap.size ∧ d.f < W.heap.size ∧ d.g < W.heap.size :=
  ⟨lt_of_block p.hb, lt_of_block p.zb, lt_of_block p.lb, lt_of_block p.fb, lt_of_block p.row⟩

/-- A block of a row of the call's own is cells. -/
theorem owns_cells_at {w : World} {base : Nat} {e : TypeId} {s : Nat} {v : Value} {n : Nat} {XS : List Value} (h : w.ownsRow base e s v n XS) {k : Nat} (hk : v.ownBlock = some k) : ∃ cur t fr, w.heap[k]? = some (.cells cur t fr) := by
  rcases h.2 with ⟨rfl, _⟩ | ⟨g, cap, cur, rfl, hb, hg, _⟩
  · simp [Value.ownBlock] at hk
  · simp [Value.ownBlock] at hk
    subst hk
    exact ⟨_, _, _, hg⟩

/-- What is no cells may turn. -/
theorem Pst.own (p : Pst w0 B1 d a c h z lf xs R W) {r : Option Nat} (hB : w0.heap.size ≤ B1) (g : W.grownBy W' r) (hr : ∀ k, r = some k → B1 ≤ k ∧ ∃ o : Obj, W.heap[k]? = some o ∧ o.isCells = false) : Pst w0 B1 d a c h z lf xs R W' := by
  have C : Chg (fun k => r = some k) W W' := (Chg.refl _ W).grown g fun k hk => .inl hk
  have nc : ∀ {k : Nat} {cur : Array Value} {t : TypeId} {fr : Nat × Nat}, W.heap[k]? = some (.cells cur t fr) → ¬ r = some k := by
    intro k cur t fr hk e
    obtain ⟨_, o, ho, hc⟩ := hr k e
    rw [hk] at ho
    cases ho
    cases hc
  refine ⟨C.heap p.hb (nc p.hb), C.heap p.zb (nc p.zb), C.heap p.lb (nc p.lb), C.heap p.fb (nc p.fb), C.heap p.row (nc p.row), C.owns p.lef fun k hk => ?_, fun x hx => C.owns (p.dat x hx) fun k hk => ?_, p.chg.grown g fun k hk => .inr (by have := (hr k hk).1; omega)⟩
  · obtain ⟨cur, t, fr, hc⟩ := owns_cells_at p.lef hk
    exact nc hc
  · obtain ⟨cur, t, fr, hc⟩ := owns_cells_at (p.dat x hx) hk
    exact nc hc

/-- What a round leaves. -/
theorem Pst.step (p : Pst w0 B1 d a c h z lf xs R W) (s : Ads w0 B1 d a) (hB : B1 ≤ W.heap.size) (i : Nat) (b : Int) (hi : i < xs.length) {W1 W2 W3 : World} (k1 : W1 = W.setCell ⟨d.g, i * 2, none⟩ (.int .i64 b)) (q : Nat) (kq : W2 = W1.drewN q) {T R' : List Int} {iv : Value}
    (o1 : W3.ownsRow W2.heap.size 3 1 iv T.length (T.map (Value.int .i64))) (o2 : Chg (Blk a) W2 W3) (o3 : W3.ownsRow 0 35 2 (.slice a R'.length c) R'.length ((R'.map (itm lf)).flatMap f2)) :
    Pst w0 B1 d a c h z lf (xs.set i ⟨b, iv, T⟩) R' ((W3.setCell ⟨d.g, i * 2 + 1, none⟩ iv).setCell ⟨d.l, 0, none⟩ (.slice a R'.length c)) ∧ Chg (fun k => k = d.g ∨ k = d.l ∨ Blk a k) W ((W3.setCell ⟨d.g, i * 2 + 1, none⟩ iv).setCell ⟨d.l, 0, none⟩ (.slice a R'.length c)) := by
  subst k1 kq
  obtain ⟨n1, n2, n3, n4, n5, n6, n7⟩ := s.ne
  have C1 : Chg (fun k => k = d.g) W ((W.setCell ⟨d.g, i * 2, none⟩ (.int .i64 b)).drewN q) := by
    have c0 : Chg (fun k => k = d.g) W (W.setCell ⟨d.g, i * 2, none⟩ (.int .i64 b)) := (Chg.refl _ W).setCell _ _ (.inl rfl)
    exact c0.drewN q
  have hs1 := C1.size
  have hs2 := o2.size
  have ng : ∀ {k : Nat}, (k = d.h ∨ k = d.z ∨ k = d.l ∨ k = d.f ∨ k = d.g) → ¬ Blk a k := fun {k} hk hb => by
    obtain ⟨_, _, m1, m2, m3, m4, m5⟩ := s.bl k hb
    rcases hk with e | e | e | e | e
    · exact m1 e
    · exact m2 e
    · exact m3 e
    · exact m4 e
    · exact m5 e
  have C2 : Chg (fun k => k = d.g ∨ Blk a k) W W3 := (C1.mono fun k e => .inl (.inl e)).trans o2 fun k e => .inl (.inr e)
  have CE : Chg (fun k => k = d.g ∨ k = d.l) W3 ((W3.setCell ⟨d.g, i * 2 + 1, none⟩ iv).setCell ⟨d.l, 0, none⟩ (.slice a R'.length c)) := ((Chg.refl _ W3).setCell _ _ (.inl (.inl rfl))).setCell _ _ (.inl (.inr rfl))
  have CA : Chg (fun k => k = d.g ∨ k = d.l ∨ Blk a k) W ((W3.setCell ⟨d.g, i * 2 + 1, none⟩ iv).setCell ⟨d.l, 0, none⟩ (.slice a R'.length c)) := by
    refine (C2.mono fun k e => .inl ?_).trans CE fun k e => .inl ?_
    · rcases e with e | e
      · exact .inl e
      · exact .inr (.inr e)
    · rcases e with e | e
      · exact .inl e
      · exact .inr (.inl e)
  have hrow : ((W3.setCell ⟨d.g, i * 2 + 1, none⟩ iv).setCell ⟨d.l, 0, none⟩ (.slice a R'.length c)).heap[d.g]? = some (.cells ((xs.set i ⟨b, iv, T⟩).flatMap ff).toArray 46 (0, 0)) := by
    have e1 : ((W.setCell ⟨d.g, i * 2, none⟩ (.int .i64 b)).drewN q).heap[d.g]? = some (.cells ((xs.flatMap ff).set (i * 2) (.int .i64 b)).toArray 46 (0, 0)) := row_set p.row (i * 2) (.int .i64 b)
    have e2 := o2.heap e1 (ng (.inr (.inr (.inr (.inr rfl)))))
    have e3 := row_set e2 (i * 2 + 1) iv
    rw [setf xs i ⟨b, iv, T⟩] at e3
    have C4 : Chg (fun k => k = d.l) (W3.setCell ⟨d.g, i * 2 + 1, none⟩ iv) ((W3.setCell ⟨d.g, i * 2 + 1, none⟩ iv).setCell ⟨d.l, 0, none⟩ (.slice a R'.length c)) := (Chg.refl _ _).setCell _ _ (.inl rfl)
    exact C4.heap e3 (fun e => n7 e.symm)
  have hlb : ((W3.setCell ⟨d.g, i * 2 + 1, none⟩ iv).setCell ⟨d.l, 0, none⟩ (.slice a R'.length c)).heap[d.l]? = some (.cells #[.slice a R'.length c] 23 (0, 0)) := by
    have e1 : (W3.setCell ⟨d.g, i * 2 + 1, none⟩ iv).heap[d.l]? = some (.cells #[.slice a R.length c] 23 (0, 0)) := by
      have C4 : Chg (fun k => k = d.g ∨ Blk a k) W (W3.setCell ⟨d.g, i * 2 + 1, none⟩ iv) := C2.setCell _ _ (.inl (.inl rfl))
      exact C4.heap p.lb fun e => e.elim n7 (ng (.inr (.inr (.inl rfl))))
    exact row_set (xs := [.slice a R.length c]) e1 0 (.slice a R'.length c)
  refine ⟨⟨?_, ?_, hlb, ?_, hrow, ?_, ?_, ?_⟩, CA⟩
  · exact CA.heap p.hb fun e => e.elim n2 fun e => e.elim n1 (ng (.inl rfl))
  · exact CA.heap p.zb fun e => e.elim n4 fun e => e.elim n3 (ng (.inr (.inl rfl)))
  · rw [List.length_set]
    exact CA.heap p.fb fun e => e.elim n6 fun e => e.elim n5 (ng (.inr (.inr (.inr (.inl rfl)))))
  · refine CE.owns o3 fun k hk e => ?_
    have hb := blk_own.1 hk
    rcases e with e | e
    · exact ng (.inr (.inr (.inr (.inr e)))) hb
    · exact ng (.inr (.inr (.inl e))) hb
  · intro x hx
    have fin : ∀ {v : Value} {n : Nat} {XS : List Value}, W3.ownsRow B1 3 1 v n XS → ((W3.setCell ⟨d.g, i * 2 + 1, none⟩ iv).setCell ⟨d.l, 0, none⟩ (.slice a R'.length c)).ownsRow B1 3 1 v n XS := fun {v n XS} o => by
      refine CE.owns o fun k hk e => ?_
      have := (o.lt k hk).1
      have := s.hi
      rcases e with e | e <;> omega
    rcases List.mem_or_eq_of_mem_set hx with hx | rfl
    · refine fin (C2.owns (p.dat x hx) fun k hk e => ?_)
      have := ((p.dat x hx).lt k hk).1
      have := s.hi
      rcases e with e | e
      · omega
      · have := (s.bl k e).2.1
        omega
    · exact fin (owns_base o1 (by omega))
  · refine p.chg.trans CA fun k e => .inr ?_
    have := s.lo
    rcases e with e | e | e
    · omega
    · omega
    · exact (s.bl k e).1
end

end Go.Proofs.Ytkaohjlnlgennaa.st
