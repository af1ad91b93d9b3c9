/- Nonces as they are first asked for: a list without repeats; nonces that came in. -/
import Derived.Test.YtmchjnmmeankgaaArg
import Derived.Test.YtmchjnmmeankgaaArgs
import Derived.Deep.SlicePairs
namespace Go.Proofs.Ytmchjnmmeankgaa.st
open Go.ChangeShapes Go.WideShapes Go.ChangeAt Go.RowKit Go.Proofs.Ytmchjnmmeankgaa.hp Go.Proofs.Ytmchjnmmeankgaa.dg
set_option linter.unusedVariables false

/-- The first j, each once. -/
def dd (P : Nat → Int × Int) : Nat → List (Int × Int)
  | 0 => []
  | j + 1 => if P j ∈ dd P j then dd P j else dd P j ++ [P j]

theorem dd_len (P : Nat → Int × Int) (j : Nat) : (dd P j).length ≤ j := by
  induction j with
  | zero => simp [dd]
  | succ j ih =>
    rw [dd]
    split
    · omega
    · rw [List.length_append]
      simp
      omega

theorem mem_dd (P : Nat → Int × Int) (j : Nat) (n : Int × Int) : n ∈ dd P j ↔ ∃ m, m < j ∧ P m = n := by
  induction j with
  | zero => simp [dd]
  | succ j ih =>
    have key : n ∈ dd P (j + 1) ↔ n ∈ dd P j ∨ n = P j := by
      rw [dd]
      split
      · rename_i h
        constructor
        · exact .inl
        · rintro (e | e)
          · exact e
          · rw [e]; exact h
      · rw [List.mem_append, List.mem_singleton]
    rw [key, ih]
    constructor
    · rintro (⟨m, h1, h2⟩ | e)
      · exact ⟨m, by omega, h2⟩
      · exact ⟨j, by omega, e.symm⟩
    · rintro ⟨m, h1, h2⟩
      by_cases hm : m = j
      · subst hm
        exact .inr h2.symm
      · exact .inl ⟨m, by omega, h2⟩

/-- Is none of the first m the j-th? -/
def fr (P : Nat → Int × Int) (j : Nat) : Nat → Bool
  | 0 => true
  | m + 1 => fr P j m && !decide (P m = P j)

theorem fr_iff (P : Nat → Int × Int) (j m : Nat) : fr P j m = true ↔ ∀ m', m' < m → P m' ≠ P j := by
  induction m with
  | zero => simp [fr]
  | succ m ih =>
    rw [fr, Bool.and_eq_true, ih]
    constructor
    · rintro ⟨h1, h2⟩ m' hm'
      by_cases e : m' = m
      · subst e
        simpa using h2
      · exact h1 m' (by omega)
    · intro h
      exact ⟨fun m' hm' => h m' (by omega), by simpa using h m (by omega)⟩

theorem fr_dd (P : Nat → Int × Int) (j : Nat) : fr P j j = decide (P j ∉ dd P j) := by
  rw [Bool.eq_iff_iff, fr_iff, decide_eq_true_iff, mem_dd]
  constructor
  · rintro h ⟨m, h1, h2⟩
    exact h m h1 h2
  · intro h m hm e
    exact h ⟨m, hm, e⟩

theorem idx_append {l : List (Int × Int)} {n m : Int × Int} (h : n ∈ l) : (l ++ [m]).idxOf n = l.idxOf n := by
  induction l with
  | nil => simp at h
  | cons x l ih =>
    rw [List.cons_append, List.idxOf_cons, List.idxOf_cons]
    by_cases hx : x = n
    · simp [hx]
    · have hb : (x == n) = false := by simpa using hx
      rw [hb]
      simp only [cond_false]
      rcases List.mem_cons.1 h with e | e
      · exact absurd e.symm hx
      · rw [ih e]

/-- Where the i-th stands among the first j; n: nowhere yet. -/
def att (P : Nat → Int × Int) (i n j : Nat) : Nat := if P i ∈ dd P j then (dd P j).idxOf (P i) else n

theorem dd_step_in {P : Nat → Int × Int} {j : Nat} (h : P j ∈ dd P j) : dd P (j + 1) = dd P j := by rw [dd, if_pos h]
theorem dd_step_out {P : Nat → Int × Int} {j : Nat} (h : P j ∉ dd P j) : dd P (j + 1) = dd P j ++ [P j] := by rw [dd, if_neg h]

/-- It comes up now. -/
theorem att_hit {P : Nat → Int × Int} {i n j : Nat} (he : P j = P i) (hn : P i ∉ dd P j) : att P i n (j + 1) = (dd P j).length ∧ P i ∈ dd P (j + 1) := by
  have hj : P j ∉ dd P j := by rw [he]; exact hn
  have hm : P i ∈ dd P (j + 1) := by rw [dd_step_out hj, he]; simp
  refine ⟨?_, hm⟩
  unfold att
  rw [if_pos hm, dd_step_out hj, he]
  exact idx_new hn

/-- It has come up. -/
theorem att_old {P : Nat → Int × Int} {i n j : Nat} (hn : P i ∈ dd P j) : att P i n (j + 1) = att P i n j ∧ P i ∈ dd P (j + 1) := by
  by_cases hj : P j ∈ dd P j
  · unfold att
    rw [dd_step_in hj]
    exact ⟨rfl, hn⟩
  · have hm : P i ∈ dd P (j + 1) := by rw [dd_step_out hj]; exact List.mem_append.2 (.inl hn)
    refine ⟨?_, hm⟩
    unfold att
    rw [if_pos hm, if_pos hn, dd_step_out hj]
    exact idx_append hn

/-- It has not. -/
theorem att_miss {P : Nat → Int × Int} {i n j : Nat} (he : P j ≠ P i) (hn : P i ∉ dd P j) : att P i n (j + 1) = att P i n j ∧ P i ∉ dd P (j + 1) := by
  have hm : P i ∉ dd P (j + 1) := by
    intro h
    obtain ⟨m, h1, h2⟩ := (mem_dd P _ _).1 h
    by_cases e : m = j
    · subst e
      exact he h2
    · exact hn ((mem_dd P _ _).2 ⟨m, by omega, h2⟩)
  unfold att
  rw [if_neg hm, if_neg hn]
  exact ⟨rfl, hm⟩

theorem att_end (P : Nat → Int × Int) (i : Nat) : att P i (dd P i).length i = (dd P (i + 1)).idxOf (P i) := by
  unfold att
  by_cases h : P i ∈ dd P i
  · rw [if_pos h, dd_step_in h]
  · rw [if_neg h, dd_step_out h, idx_new h]

theorem att_lt (P : Nat → Int × Int) (i : Nat) : (dd P (i + 1)).idxOf (P i) < (dd P (i + 1)).length := List.idxOf_lt_length_iff.2 ((mem_dd P _ _).2 ⟨i, by omega, rfl⟩)

/-- The nonces that a slice shows. -/
def PairsAt (w : World) (a : Option Addr) (len : Nat) (P : Nat → Int × Int) : Prop := ∀ i, i < len → ∃ x, a = some x ∧ w.cell? (x.add (i * 2)) = some (.int .i64 (P i).1) ∧ w.cell? ⟨(x.add (i * 2)).block, (x.add (i * 2)).off + 1, none⟩ = some (.int .i64 (P i).2) ∧ Fits (P i)

theorem PairsAt.chg {w w' : World} {a : Option Addr} {len : Nat} {P : Nat → Int × Int} (h : PairsAt w a len P) (c : Chg no w w') : PairsAt w' a len P := by
  intro i hi
  obtain ⟨x, h1, h2, h3, h4⟩ := h i hi
  exact ⟨x, h1, c.cell h2 id, c.cell h3 id, h4⟩

theorem add_one (x : Addr) (i : Nat) : x.add (i + 1) = ⟨(x.add i).block, (x.add i).off + 1, none⟩ := by
  unfold Addr.add
  rw [if_neg (by omega)]
  split
  · subst_vars; simp
  · simp; omega

theorem open_pairs {H : Type} {enc : TypeId × Value → H} {w : World} {base fuel : Nat} {x : DataW H × List MemPlace} {a : Option Addr} {len cap : Nat} (h : DataW.trod enc Try.prog w base (fun _ => true) true fuel 72 [.slice a len cap] = some x) : ∃ P, PairsAt w a len P := by
  rcases Deep.open_slice_pairs Try.underlying72 Try.underlying40 (by kernel_rfl) rfl rfl (by kernel_rfl) (by kernel_rfl) h with ⟨hcs, _⟩ | ⟨y, l, c, mm, nn, V0, V1, D0, D1, P0, P1, hcs, _, hl, hm, hmm, _, hall⟩
  · simp at hcs
    obtain ⟨rfl, rfl, rfl⟩ := hcs
    exact ⟨fun _ => (0, 0), fun i hi => by omega⟩
  · simp at hcs
    obtain ⟨rfl, rfl, rfl⟩ := hcs
    have each : ∀ i, i < len → ∃ z : Int × Int, w.cell? (y.add (i * 2)) = some (.int .i64 z.1) ∧ w.cell? (y.add (i * 2 + 1)) = some (.int .i64 z.2) ∧ Fits z := by
      intro i hi
      obtain ⟨e0, e1, t0, t1⟩ := hall i (by rw [hmm]; split <;> omega)
      obtain ⟨n0, g0, _, f0⟩ := DataW.trod_int Try.underlying3 t0
      obtain ⟨n1, g1, _, f1⟩ := DataW.trod_int Try.underlying3 t1
      simp at g0 g1
      exact ⟨(n0, n1), by rw [e0, g0], by rw [e1, g1], f0, f1⟩
    obtain ⟨z, hz⟩ := Deep.choose_lt each
    refine ⟨z, fun i hi => ⟨y, rfl, (hz i hi).1, ?_, (hz i hi).2.2⟩⟩
    have := (hz i hi).2.1
    rw [add_one] at this
    exact this

end Go.Proofs.Ytmchjnmmeankgaa.st
