/- What was recorded, done again: plain facts, and what the law TraceAgain carries. -/
import Derived.Test.YteehphmedmplkaaFailsS
import Derived.Test.YteehphmedmplkaaCount
namespace Go.Proofs.Yteehphmedmplkaa.pl
open Go.ChangeShapes Go.WideShapes Go.ChangeAt Go.RowKit Go.Proofs.Yteehphmedmplkaa.hp Go.Proofs.Yteehphmedmplkaa.md Go.Proofs.Yteehphmedmplkaa.st
set_option linter.unusedVariables false

/-- What a record tells. -/
abbrev Tl := Int × Int × List Int

/-- The cells' bytes behind what was recorded. -/
def cur (n sz : Nat) (l : List Tl) : List (List Int) := l.foldl (fun V x => if x.1 = 2 then V.set x.2.1.toNat x.2.2 else V) (List.replicate n (List.replicate sz 0))

/-- A record that may follow. -/
def okTl (n sz : Nat) (V : List (List Int)) (x : Tl) : Prop :=
  (x.1 = 1 ∧ 0 ≤ x.2.1 ∧ x.2.1 < n ∧ x.2.2 = V.getD x.2.1.toNat []) ∨ (x.1 = 2 ∧ 0 ≤ x.2.1 ∧ x.2.1 < n ∧ x.2.2.length = sz) ∨ (x.1 = 3 ∧ x.2.1 = 0 ∧ x.2.2 = [])

/-- Each record may follow those ahead of it. -/
def Valid (n sz : Nat) (l : List Tl) : Prop := ∀ i x, l[i]? = some x → okTl n sz (cur n sz (l.take i)) x

theorem cur_more (n sz : Nat) (l : List Tl) (x : Tl) : cur n sz (l ++ [x]) = if x.1 = 2 then (cur n sz l).set x.2.1.toNat x.2.2 else cur n sz l := by
  simp [cur, List.foldl_append]

theorem Valid.more {n sz : Nat} {l : List Tl} {x : Tl} (h : Valid n sz l) (hx : okTl n sz (cur n sz l) x) : Valid n sz (l ++ [x]) := by
  intro i y hy
  by_cases hi : i < l.length
  · rw [List.getElem?_append_left hi] at hy
    rw [List.take_append_of_le_length (by omega)]
    exact h i y hy
  · rw [List.getElem?_append_right (by omega)] at hy
    have h0 : i - l.length = 0 := by
      rcases Nat.eq_zero_or_pos (i - l.length) with h | h
      · exact h
      · rw [List.getElem?_eq_none (by simp; omega)] at hy; cases hy
    rw [h0] at hy
    simp at hy
    subst hy
    have : i = l.length := by omega
    subst this
    rw [List.take_append_of_le_length (Nat.le_refl _), List.take_of_length_le (Nat.le_refl _)]
    exact hx

/-- A recorder of n cells of sz bytes that never fell: what it recorded, and what its cells hold. -/
structure R1 (w : World) (r p n sz k : Nat) (F : Nat → Prop) (m : Mod) (T : List Rec) (wr : World) : Prop where
  rc : Rc wr r p F m T
  ops : m.ops ≤ k
  le : T.length ≤ k
  up : m.up = true
  arm : m.arm = 0
  kp : m.kp = []
  vl : m.V.length = n
  hsz : m.sz = sz
  now : m.now.map (·.2) = cur n sz (T.map Rec.tell)
  ok : Valid n sz (T.map Rec.tell)

section
variable {w X w1 : World} {r p n sz k : Nat} {F G : Nat → Prop} {m : Mod} {T : List Rec}

theorem R1.chg (h : R1 w r p n sz k F m T X) (c : Chg G X w1) (hn : ∀ j, F j → ¬ G j) : R1 w r p n sz k F m T w1 := ⟨h.rc.chg c hn, h.ops, h.le, h.up, h.arm, h.kp, h.vl, h.hsz, h.now, h.ok⟩

theorem R1.same (h : R1 w r p n sz k F m T X) (c : Chg no X w1) : R1 w r p n sz k F m T w1 := h.chg c fun _ _ h => h

theorem R1.mono (h : R1 w r p n sz k F m T X) {k' : Nat} (hk : k ≤ k') : R1 w r p n sz k' F m T X := ⟨h.rc, Nat.le_trans h.ops hk, Nat.le_trans h.le hk, h.up, h.arm, h.kp, h.vl, h.hsz, h.now, h.ok⟩

theorem R1.fails (h : R1 w r p n sz k F m T X) : m.fails = false := by simp [Mod.fails, h.up, h.arm]

theorem R1.began (h : R1 w r p n sz k F m T X) : m.began = { m with ops := m.ops + 1, arm := m.arm - 1 } := (began_ok m h.fails).1

theorem now_at (h : R1 w r p n sz k F m T X) (a : Nat) (ha : a < n) : (m.now.getD a dC).2 = (cur n sz (T.map Rec.tell)).getD a [] := by
  rw [← h.now]
  simp only [List.getD_eq_getElem?_getD, List.getElem?_map]
  have hl : m.now.length = m.V.length := redo_length _ _ _ _
  rw [List.getElem?_eq_getElem (by rw [hl, h.vl]; exact ha)]
  rfl

theorem cur_len (n sz : Nat) (l : List Tl) : (cur n sz l).length = n := by
  unfold cur
  suffices ∀ (V : List (List Int)), (l.foldl (fun V x => if x.1 = 2 then V.set x.2.1.toNat x.2.2 else V) V).length = V.length by rw [this]; simp
  induction l with
  | nil => intro V; rfl
  | cons x l ih => intro V; rw [List.foldl_cons, ih]; split <;> simp

theorem cur_sz {n sz : Nat} {l : List Tl} (h : Valid n sz l) : ∀ i, i ≤ l.length → ∀ a, a < n → ((cur n sz (l.take i)).getD a []).length = sz := by
  intro i
  induction i with
  | zero =>
    intro _ a ha
    simp [cur, List.getD_eq_getElem?_getD, ha]
  | succ i ih =>
    intro hi a ha
    have hx : l[i]? = some l[i] := List.getElem?_eq_getElem (by omega)
    rw [List.take_add_one, hx, Option.toList_some, cur_more]
    split
    · rename_i h2
      have hl := cur_len n sz (l.take i)
      rw [List.getD_eq_getElem?_getD, List.getElem?_set]
      split
      · rename_i he
        rw [if_pos (by omega)]
        rcases h i _ hx with h1 | h1 | h1
        · omega
        · exact h1.2.2.2
        · omega
      · rw [← List.getD_eq_getElem?_getD]; exact ih (by omega) a ha
    · exact ih (by omega) a ha

theorem valid_zs {n sz : Nat} {T : List Rec} (h : Valid n sz (T.map Rec.tell)) (hs : sz ≤ 100000) : ∀ x ∈ T, x.zs.length ≤ 100000 := by
  intro x hx
  obtain ⟨i, hi, rfl⟩ := List.mem_iff_getElem.1 hx
  have hg : (T.map Rec.tell)[i]? = some T[i].tell := by rw [List.getElem?_map, List.getElem?_eq_getElem hi]; rfl
  rcases h i _ hg with h1 | h1 | h1
  · have : T[i].zs = _ := h1.2.2.2
    rw [this, cur_sz h i (by simp; omega) _ (by have := h1.2.1; have := h1.2.2.1; omega)]
    exact hs
  · have : T[i].zs.length = sz := h1.2.2.2
    omega
  · have : T[i].zs = [] := h1.2.2
    rw [this]; simp

theorem R1.sync (h : R1 w r p n sz k F m T X) (hk : k ≤ 1000) : Calls Try.prog 17 #[.pointer (some ⟨r, 0, none⟩)] X fun e w1 => e = .returned (.int .i64 0) ∧ Chg F X w1 ∧ ∃ m1 v, R1 w r p n sz (k + 1) (Wid F X w1) m1 (T ++ [⟨3, 0, v, []⟩]) w1 := by
  have ho : m.ops ≤ 100000000 := by have := h.ops; omega
  have hl := h.le
  refine (tsync_ok h.rc ho (by rw [h.kp]; decide) h.fails (by omega)).mono ?_
  rintro e w1 ⟨v, rfl, s1, c1⟩
  have hb := h.began
  have hok := h.ops
  refine ⟨rfl, c1, m.began.sync, v, s1, ?_, by simp; omega, ?_, ?_, ?_, ?_, ?_, ?_, ?_⟩
  · rw [hb]; show m.ops + 1 ≤ k + 1; omega
  · rw [hb]; exact h.up
  · rw [hb]; show m.arm - 1 = 0; rw [h.arm]
  · rw [hb]; exact h.kp
  · rw [hb]; show m.now.length = n; rw [← h.vl]; exact redo_length _ _ _ _
  · rw [hb]; exact h.hsz
  · rw [List.map_append, List.map_singleton, cur_more, if_neg (by simp [Rec.tell]), hb, ← h.now]
    simp [Mod.sync, Mod.now, md.redo]
  · rw [List.map_append, List.map_singleton]
    exact h.ok.more (.inr (.inr ⟨rfl, rfl, rfl⟩))

theorem R1.read_out (h : R1 w r p n sz k F m T X) (hk : k ≤ 1000) (A : Int) (hA : ¬ (0 ≤ A ∧ A < n)) : Calls Try.prog 12 #[.pointer (some ⟨r, 0, none⟩), .int .i64 A] X fun e w1 => e = .returned (.tuple #[.slice none 0 0, .int .i64 1]) ∧ Chg F X w1 ∧ ∃ m1, R1 w r p n sz (k + 1) (Wid F X w1) m1 T w1 := by
  have ho : m.ops ≤ 100000000 := by have := h.ops; omega
  have hl := h.le
  refine (tread_out h.rc ho (by rw [h.kp]; decide) h.fails A (by rw [h.vl]; exact hA)).mono ?_
  rintro e w1 ⟨rfl, s1, c1⟩
  have hb := h.began
  have hok := h.ops
  refine ⟨rfl, c1, m.began, s1, ?_, by omega, ?_, ?_, ?_, ?_, ?_, ?_, h.ok⟩
  · rw [hb]; show m.ops + 1 ≤ k + 1; omega
  · rw [hb]; exact h.up
  · rw [hb]; show m.arm - 1 = 0; rw [h.arm]
  · rw [hb]; exact h.kp
  · rw [hb]; exact h.vl
  · rw [hb]; exact h.hsz
  · rw [hb, ← h.now]; rfl

theorem R1.read_in (h : R1 w r p n sz k F m T X) (hk : k ≤ 1000) (a : Nat) (ha : a < n) : Calls Try.prog 12 #[.pointer (some ⟨r, 0, none⟩), .int .i64 a] X fun e w1 => ∃ g zs, e = .returned (.tuple #[.slice (some ⟨g, 0, none⟩) sz sz, .int .i64 0]) ∧ zs = (cur n sz (T.map Rec.tell)).getD a [] ∧ zs.length = sz ∧
      Lies (fun j => X.heap.size ≤ j) w1 (.slice (some ⟨g, 0, none⟩) sz sz) (zs.map (Value.int .u8)) ∧ Chg F X w1 ∧ ∃ m1 v, R1 w r p n sz (k + 1) (Wid F X w1) m1 (T ++ [⟨1, a, v, zs⟩]) w1 := by
  have ho : m.ops ≤ 100000000 := by have := h.ops; omega
  have hl := h.le
  have hz := (by obtain ⟨S, s, _⟩ := h.rc.step; exact now_len s a (by rw [h.vl]; exact ha) : (m.now.getD a dC).2.length = m.sz ∧ m.sz ≤ 4096)
  have HR := tread_in h.rc ho (by rw [h.kp]; decide) h.fails (by omega) a (by rw [h.vl]; exact ha)
  rw [now_at h a ha] at HR hz
  rw [h.hsz] at HR hz
  refine HR.mono ?_
  rintro e w1 ⟨g, v, rfl, hg, gb, s1, c1⟩
  have hb := h.began
  have hok := h.ops
  have L := (lies_block gb sz).mono (K := fun j => X.heap.size ≤ j) (fun j hj => by omega)
  rw [List.length_map, hz.1] at L
  refine ⟨g, _, rfl, rfl, hz.1, L, c1, m.began, v, s1, ?_, by simp; omega, ?_, ?_, ?_, ?_, ?_, ?_, ?_⟩
  · rw [hb]; show m.ops + 1 ≤ k + 1; omega
  · rw [hb]; exact h.up
  · rw [hb]; show m.arm - 1 = 0; rw [h.arm]
  · rw [hb]; exact h.kp
  · rw [hb]; exact h.vl
  · rw [hb]; exact h.hsz
  · rw [List.map_append, List.map_singleton, cur_more, if_neg (by simp [Rec.tell]), hb, ← h.now]; rfl
  · rw [List.map_append, List.map_singleton]
    exact h.ok.more (.inl ⟨rfl, by simp [Rec.tell], by simp only [Rec.tell]; omega, by simp [Rec.tell]⟩)

theorem R1.write_out (h : R1 w r p n sz k F m T X) (hk : k ≤ 1000) (A : Int) (x : Option Addr) (l c : Nat) (hA : ¬ (0 ≤ A ∧ A < n) ∨ l ≠ sz) : Calls Try.prog 15 #[.pointer (some ⟨r, 0, none⟩), .int .i64 A, .slice x l c] X fun e w1 => ∃ y, e = .returned (.int .i64 y) ∧ Chg F X w1 ∧ ∃ m1, R1 w r p n sz (k + 1) (Wid F X w1) m1 T w1 := by
  have ho : m.ops ≤ 100000000 := by have := h.ops; omega
  have hl := h.le
  have hb := h.began
  have hok := h.ops
  have fin : ∀ w1, Rc w1 r p (Wid F X w1) m.began T → Chg F X w1 → ∃ m1, R1 w r p n sz (k + 1) (Wid F X w1) m1 T w1 := by
    intro w1 s1 c1
    refine ⟨m.began, s1, ?_, by omega, ?_, ?_, ?_, ?_, ?_, ?_, h.ok⟩
    · rw [hb]; show m.ops + 1 ≤ k + 1; omega
    · rw [hb]; exact h.up
    · rw [hb]; show m.arm - 1 = 0; rw [h.arm]
    · rw [hb]; exact h.kp
    · rw [hb]; exact h.vl
    · rw [hb]; exact h.hsz
    · rw [hb, ← h.now]; rfl
  by_cases hr : 0 ≤ A ∧ A < m.V.length
  · refine (twrite_form h.rc ho (by rw [h.kp]; decide) h.fails A hr x l c (by rw [h.hsz]; rcases hA with hA | hA; rw [h.vl] at hr; exact absurd hr hA; exact hA)).mono ?_
    rintro e w1 ⟨rfl, s1, c1⟩
    exact ⟨_, rfl, c1, fin w1 s1 c1⟩
  · refine (twrite_out h.rc ho (by rw [h.kp]; decide) h.fails A hr x l c).mono ?_
    rintro e w1 ⟨rfl, s1, c1⟩
    exact ⟨_, rfl, c1, fin w1 s1 c1⟩

theorem R1.write_ok {J : Nat → Prop} (h : R1 w r p n sz k F m T X) (hk : k ≤ 1000) (a : Nat) (ha : a < n) (x : Option Addr) (c : Nat) (zs : List Int) (hz : zs.length = sz) (hv : Lies J X (.slice x zs.length c) (zs.map (Value.int .u8))) (hJ : ∀ j, J j → ¬ F j ∧ j < X.heap.size) :
    Calls Try.prog 15 #[.pointer (some ⟨r, 0, none⟩), .int .i64 a, .slice x zs.length c] X fun e w1 => e = .returned (.int .i64 0) ∧ Chg F X w1 ∧ ∃ m1 v, R1 w r p n sz (k + 1) (Wid F X w1) m1 (T ++ [⟨2, a, v, zs⟩]) w1 := by
  have ho : m.ops ≤ 100000000 := by have := h.ops; omega
  have hl := h.le
  refine (twrite_ok h.rc ho (by rw [h.kp]; decide) h.fails (by omega) a (by rw [h.vl]; exact ha) x c zs (by rw [h.hsz]; exact hz) hv hJ).mono ?_
  rintro e w1 ⟨v', v, rfl, s1, c1⟩
  have hb := h.began
  have hok := h.ops
  refine ⟨rfl, c1, _, v, s1, ?_, by simp; omega, ?_, ?_, ?_, ?_, ?_, ?_, ?_⟩
  · rw [hb]; show m.ops + 1 ≤ k + 1; omega
  · rw [hb]; exact h.up
  · rw [hb]; show m.arm - 1 = 0; rw [h.arm]
  · rw [hb]; exact h.kp
  · rw [hb]; exact h.vl
  · rw [hb]; exact h.hsz
  · rw [List.map_append, List.map_singleton, cur_more, if_pos (by simp [Rec.tell]), hb, ← h.now]
    have e1 := redo_more m.V m.W (a, v', zs)
    have e2 : Mod.now (Mod.put { m with ops := m.ops + 1, arm := m.arm - 1 } (a, v', zs)) = m.now.set a (v', zs) := by
      simpa [Mod.now, Mod.put] using e1
    rw [e2, List.map_set]
    rfl
  · rw [List.map_append, List.map_singleton]
    exact h.ok.more (.inr (.inl ⟨rfl, by simp [Rec.tell], by simp only [Rec.tell]; omega, by simpa [Rec.tell] using hz⟩))
end

end Go.Proofs.Yteehphmedmplkaa.pl
