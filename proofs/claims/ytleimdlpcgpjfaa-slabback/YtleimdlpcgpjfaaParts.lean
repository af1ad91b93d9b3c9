/- Parts written one behind the other, as plain lists and in memory. -/
import Derived.Test.YtleimdlpcgpjfaaEndsS
import Derived.Test.YtleimdlpcgpjfaaFar
import Derived.Deep.CutBlock
namespace Go.Proofs.Ytleimdlpcgpjfaa.st
open Go.ChangeShapes Go.WideShapes Go.ChangeAt Go.RowKit Go.Proofs.Ytleimdlpcgpjfaa.hp Go.Proofs.Ytleimdlpcgpjfaa.dg
set_option linter.unusedVariables false

/-- A writer behind j parts. -/
def wsAt (O : Nat → PA) : Nat → WS
  | 0 => ([], false)
  | j + 1 => if (O j).wd = 0 then raws (wsAt O j) [(O j).zs] else nums (O j).wd (wsAt O j) [(O j).n]

theorem nums_len (a : Int) (s : WS) (n : Int) : (nums a s [n]).1.length ≤ s.1.length + 7 := by
  have := fold_len a [n] (brk a s)
  simpa [nums, brk] using this

theorem raws_len (s : WS) (zs : List Int) : (raws s [zs]).1.length ≤ s.1.length + zs.length := by
  unfold raws
  split <;> simp

theorem wsAt_len {O : Nat → PA} {len : Nat} (h : ∀ i, i < len → (O i).zs.length ≤ 20000) (j : Nat) (hj : j ≤ len) : (wsAt O j).1.length ≤ 20007 * j := by
  induction j with
  | zero => simp [wsAt]
  | succ j ih =>
    have h1 := ih (by omega)
    have h2 := h j (by omega)
    simp only [wsAt]
    split
    · have := raws_len (wsAt O j) (O j).zs
      omega
    · have := nums_len (O j).wd (wsAt O j) (O j).n
      omega

/-- A part's bytes. -/
def pb (o : PA) : List Int := if o.wd = 0 then o.zs else enc o.n o.wd.toNat

def pre (O : Nat → PA) : Nat → List Int
  | 0 => []
  | j + 1 => pre O j ++ pb (O j)

theorem nums_fine {a n : Int} {s : WS} (h : (nums a s [n]).2 = false) : s.2 = false ∧ okN a n = true ∧ (nums a s [n]).1 = s.1 ++ enc n a.toNat := by
  have e : nums a s [n] = stp a (brk a s) n := rfl
  rw [e] at h ⊢
  unfold stp at h ⊢
  by_cases hb : (brk a s).2 = true
  · rw [if_pos hb, hb] at h
    cases h
  · rw [if_neg hb] at h ⊢
    by_cases ho : okN a n = true
    · rw [if_pos ho]
      refine ⟨?_, ho, rfl⟩
      unfold brk at hb
      simp at hb
      exact hb.1
    · rw [if_neg ho] at h
      cases h

theorem wsAt_fine (O : Nat → PA) (j : Nat) (h : (wsAt O j).2 = false) : (wsAt O j).1 = pre O j ∧ ∀ i, i < j → (O i).wd ≠ 0 → okN (O i).wd (O i).n = true := by
  induction j with
  | zero => exact ⟨rfl, fun i hi => by omega⟩
  | succ j ih =>
    simp only [wsAt] at h ⊢
    by_cases hw : (O j).wd = 0
    · rw [if_pos hw] at h ⊢
      have hs : (wsAt O j).2 = false := by
        unfold raws at h
        by_cases hb : (wsAt O j).2 = true
        · rw [if_pos hb, hb] at h
          cases h
        · simpa using hb
      obtain ⟨h1, h2⟩ := ih hs
      refine ⟨?_, fun i hi hne => ?_⟩
      · unfold raws
        rw [if_neg (by simp [hs]), h1]
        simp [pre, pb, hw]
      · by_cases e : i = j
        · subst e; exact (hne hw).elim
        · exact h2 i (by omega) hne
    · rw [if_neg hw] at h ⊢
      obtain ⟨hs, ho, he⟩ := nums_fine h
      obtain ⟨h1, h2⟩ := ih hs
      refine ⟨?_, fun i hi hne => ?_⟩
      · rw [he, h1]
        simp [pre, pb, hw]
      · by_cases e : i = j
        · subst e; exact ho
        · exact h2 i (by omega) hne

theorem pre_split (O : Nat → PA) (n i : Nat) (h : i ≤ n) : ∃ t, pre O n = pre O i ++ t := by
  induction n with
  | zero =>
    obtain rfl : i = 0 := by omega
    exact ⟨[], by simp⟩
  | succ n ih =>
    by_cases e : i = n + 1
    · subst e
      exact ⟨[], by simp⟩
    · obtain ⟨t, ht⟩ := ih (by omega)
      exact ⟨t ++ pb (O n), by simp [pre, ht]⟩

/-- What is left to read behind j parts. -/
def restAt (O : Nat → PA) (n j : Nat) (z : List Int) : List Int := (pre O n ++ z).drop (pre O j).length

theorem restAt_zero (O : Nat → PA) (n : Nat) (z : List Int) : restAt O n 0 z = pre O n ++ z := by simp [restAt, pre]

theorem restAt_all (O : Nat → PA) (n : Nat) (z : List Int) : restAt O n n z = z := by
  unfold restAt
  rw [List.drop_append_of_le_length (Nat.le_refl _), List.drop_length]
  rfl

theorem restAt_step (O : Nat → PA) (n j : Nat) (z : List Int) (h : j < n) : restAt O n j z = pb (O j) ++ restAt O n (j + 1) z := by
  obtain ⟨t, ht⟩ := pre_split O n (j + 1) (by omega)
  unfold restAt
  rw [ht, List.append_assoc, List.drop_append_of_le_length (Nat.le_refl _), List.drop_length]
  simp only [pre, List.append_assoc, List.nil_append]
  rw [List.drop_append_of_le_length (Nat.le_refl _), List.drop_length]
  rfl

theorem raw_back (zs rest : List Int) : tak (zs ++ rest, 0) zs.length (decide ((0 : Int) ≤ zs.length)) = (rest, 0) ∧ got (zs ++ rest, 0) (tak (zs ++ rest, 0) zs.length (decide ((0 : Int) ≤ zs.length))) zs.length = zs := by
  have ht : tak (zs ++ rest, 0) zs.length (decide ((0 : Int) ≤ zs.length)) = (rest, 0) := by
    unfold tak
    rw [decide_eq_true (by omega), if_neg (by simp), if_neg (by simp), if_neg (by simp; omega)]
    simp
  refine ⟨ht, ?_⟩
  rw [ht]
  simp [got]

theorem Bytes.pre {O : Nat → PA} {n : Nat} (h : ∀ i, i < n → Bytes (O i).zs) (j : Nat) (hj : j ≤ n) : Bytes (pre O j) := by
  induction j with
  | zero => exact bytes_nil
  | succ j ih =>
    refine Bytes.append (ih (by omega)) ?_
    unfold pb
    split
    · exact h j (by omega)
    · exact enc_bytes _ _

theorem bytes_zeros (n : Nat) : Bytes (List.replicate n 0) := by
  intro x hx
  have := List.eq_of_mem_replicate hx
  omega

/-- A law's writer: it was made in w4, at p. -/
abbrev LW (w4 : World) (p : Nat) (s : WS) (wr : World) : Prop := WAt w4 p (fun k => k = p) s wr

theorem LW.chg {w w4 wr : World} {p : Nat} {s : WS} (h : LW w4 p s wr) (k : Chg no w w4) (hp : w.heap.size ≤ p) : Chg no w wr := k.trans h.2 (fun b hb => .inr (by omega))

theorem LW.old {w w4 wr : World} {p : Nat} {s : WS} (h : LW w4 p s wr) (k : Chg no w w4) (hp : w.heap.size ≤ p) : ∀ b, Old w b → ¬ Wid (fun k => k = p) w4 wr b ∧ b < wr.heap.size := by
  intro b hb
  have z := k.size
  have z2 := h.2.size
  unfold Old at hb
  refine ⟨fun e => ?_, by omega⟩
  rcases e with e | e <;> omega

theorem LW.raw {w w4 wr : World} {p : Nat} {s : WS} (h : LW w4 p s wr) (k : Chg no w w4) (hp : w.heap.size ≤ p) {a : Option Addr} {c : Nat} {zs : List Int} (hv : Lies (Old w) wr (.slice a zs.length c) (zs.map (Value.int .u8))) (hl : s.1.length ≤ 10000000) (hz : zs.length ≤ 100000) :
    Calls Try.prog 11 #[.pointer (some ⟨p, 0, none⟩), .slice (some ⟨wr.heap.size, 0, none⟩) 1 1] (wr.alloc (.cells #[.slice a zs.length c] 26)) fun e w' => e = .returned (.pointer (some ⟨p, 0, none⟩)) ∧ LW w4 p (raws s [zs]) w' := by
  refine (raw_new h.1 [(.slice a zs.length c, zs)] (fun x hx => by simp at hx; subst hx; exact hv) (h.old k hp) (by simp) (by simp; omega)).mono ?_
  rintro e w' ⟨rfl, hW⟩
  exact ⟨rfl, h.step hW.1 hW.2⟩

theorem LW.num {w4 wr w1 : World} {p g : Nat} {s : WS} (h : LW w4 p s wr) (k1 : Chg no wr w1) (a n : Int) (hg : w1.heap[g]? = some (.cells #[.int .i64 n] 3 (0, 0))) (hgn : wr.heap.size ≤ g) (hl : s.1.length ≤ 10000000) :
    Calls Try.prog 12 #[.pointer (some ⟨p, 0, none⟩), .int .i64 a, .slice (some ⟨g, 0, none⟩) 1 1] w1 fun e w' => e = .returned (.pointer (some ⟨p, 0, none⟩)) ∧ LW w4 p (nums a s [n]) w' := by
  refine (num_at h.1 (by omega) k1 a [n] (by simp) hg hgn).mono ?_
  rintro e w' ⟨rfl, hW⟩
  exact ⟨rfl, h.step hW.1 hW.2⟩

theorem LW.new (w : World) : LW (w.alloc (.cells #[.slice none 0 0, .bool false] 28)) w.heap.size ([], false) (w.alloc (.cells #[.slice none 0 0, .bool false] 28)) := WAt.start (s := ([], false)) (wri_new w)

theorem LW.same {w4 wr w' : World} {p : Nat} {s : WS} (h : LW w4 p s wr) (k : Chg no wr w') : LW w4 p s w' := by
  have z := k.size
  refine ⟨(h.1.same k).wide (fun b hb => ?_) (fun b hb => ?_), h.2.then (k.of_no _)⟩
  · rcases hb with hb | hb
    · exact .inl hb
    · exact .inr ⟨hb.1, by omega⟩
  · rcases hb with hb | hb
    · have := h.1.lt b (.inl hb)
      omega
    · exact hb.2

end Go.Proofs.Ytleimdlpcgpjfaa.st
