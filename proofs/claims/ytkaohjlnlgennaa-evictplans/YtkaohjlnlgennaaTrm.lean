/- Paths of a tree as numbers: plain facts, with no word of the program. -/
import Derived.Lib.BitFns
namespace Go.Proofs.Ytkaohjlnlgennaa.tm
open Go.Lib

/-- A height that may be. -/
def okH (h : Int) : Bool := decide (0 ≤ h ∧ h ≤ 6)
/-- A leaf of a tree of this height. -/
def okL (h l : Int) : Bool := decide (0 ≤ h ∧ h ≤ 6 ∧ 0 ≤ l ∧ l < 2 ^ h.toNat)
/-- How many buckets. -/
def bks (h : Int) : Int := if okH h = true then 2 * 2 ^ h.toNat - 1 else 0
/-- How many leaves. -/
def lvs (h : Int) : Int := if okH h = true then 2 ^ h.toNat else 0
/-- A bucket of a tree of this height. -/
def okB (h b : Int) : Bool := decide (0 ≤ b ∧ b < bks h)
/-- The bucket of a leaf's path on a level. -/
def bat (h l k : Nat) : Nat := 2 ^ k - 1 + l / 2 ^ (h - k)
/-- The path of a leaf. -/
def path (h l : Nat) : List Int := (List.range (h + 1)).map fun k => (bat h l k : Int)
def pathI (h l : Int) : List Int := if okL h l = true then path h.toNat l.toNat else []
/-- How far below the root. -/
def lvl (b : Nat) : Nat := bitLen (b + 1) - 1
def lvlI (b : Int) : Int := if b < 0 then -1 else (lvl b.toNat : Int)
/-- Is the bucket on the path? -/
def onI (h b l : Int) : Bool := (pathI h l).contains b
/-- The deepest level in common. -/
def shr (h a b : Nat) : Int := (h : Int) - (bitLen (a ^^^ b) : Int)
def shI (h a b : Int) : Int := if okL h a = true ∧ okL h b = true then shr h.toNat a.toNat b.toNat else -1

theorem okL_iff (h l : Int) : okL h l = true ↔ 0 ≤ h ∧ h ≤ 6 ∧ 0 ≤ l ∧ l < 2 ^ h.toNat := by simp [okL]
theorem okH_iff (h : Int) : okH h = true ↔ 0 ≤ h ∧ h ≤ 6 := by simp [okH]

theorem pow_cast (h : Nat) : ((2 ^ h : Nat) : Int) = 2 ^ h := by
  rw [Int.natCast_pow]
  rfl

theorem pow_le6 (h : Nat) (hh : h ≤ 6) : 1 ≤ 2 ^ h ∧ 2 ^ h ≤ 64 := by
  have : h = 0 ∨ h = 1 ∨ h = 2 ∨ h = 3 ∨ h = 4 ∨ h = 5 ∨ h = 6 := by omega
  rcases this with rfl | rfl | rfl | rfl | rfl | rfl | rfl <;> decide

theorem okL_nat {h l : Int} (hk : okL h l = true) : ∃ H L : Nat, h = H ∧ l = L ∧ H ≤ 6 ∧ L < 2 ^ H ∧ L < 64 := by
  obtain ⟨h0, h1, h2, h3⟩ := (okL_iff h l).1 hk
  refine ⟨h.toNat, l.toNat, by omega, by omega, by omega, ?_, ?_⟩
  · have : (l.toNat : Int) < ((2 ^ h.toNat : Nat) : Int) := by rw [pow_cast]; omega
    omega
  · have := (pow_le6 h.toNat (by omega)).2
    have h4 : (l.toNat : Int) < ((2 ^ h.toNat : Nat) : Int) := by rw [pow_cast]; omega
    omega

theorem okL_of {h l : Nat} (h1 : h ≤ 6) (h2 : l < 2 ^ h) : okL h l = true := by
  refine (okL_iff _ _).2 ⟨by omega, by omega, by omega, ?_⟩
  rw [Int.toNat_natCast]
  rw [← pow_cast]
  omega

theorem okL_okH {h l : Int} (hk : okL h l = true) : okH h = true := by
  obtain ⟨h0, h1, _⟩ := (okL_iff h l).1 hk
  exact (okH_iff h).2 ⟨h0, h1⟩

theorem lvs_of {h : Nat} (h1 : h ≤ 6) : lvs h = ((2 ^ h : Nat) : Int) := by
  unfold lvs
  rw [if_pos ((okH_iff _).2 ⟨by omega, by omega⟩), Int.toNat_natCast, pow_cast]

theorem bks_of {h : Nat} (h1 : h ≤ 6) : bks h = ((2 * 2 ^ h - 1 : Nat) : Int) := by
  unfold bks
  rw [if_pos ((okH_iff _).2 ⟨by omega, by omega⟩), Int.toNat_natCast]
  have := pow_le6 h h1
  rw [← pow_cast]
  omega

theorem pathI_of {h l : Nat} (h1 : h ≤ 6) (h2 : l < 2 ^ h) : pathI h l = path h l := by
  unfold pathI
  rw [if_pos (okL_of h1 h2), Int.toNat_natCast, Int.toNat_natCast]

theorem pathI_none {h l : Int} (hk : okL h l = false) : pathI h l = [] := by
  unfold pathI
  rw [if_neg (by rw [hk]; decide)]

theorem path_length (h l : Nat) : (path h l).length = h + 1 := by simp [path]

theorem path_get (h l k : Nat) (hk : k ≤ h) : (path h l)[k]? = some (bat h l k : Int) := by
  unfold path
  rw [List.getElem?_map, List.getElem?_range (by omega)]
  rfl

theorem path_mem (h l : Nat) (b : Int) : b ∈ path h l ↔ ∃ k, k ≤ h ∧ b = (bat h l k : Int) := by
  unfold path
  rw [List.mem_map]
  constructor
  · rintro ⟨k, hk, rfl⟩
    exact ⟨k, by have := List.mem_range.1 hk; omega, rfl⟩
  · rintro ⟨k, hk, rfl⟩
    exact ⟨k, List.mem_range.2 (by omega), rfl⟩

/-- All that is asked of numbers so small, by trying each. -/
theorem small : ∀ h : Fin 7, ∀ l : Fin 64, l.val < 2 ^ h.val → ∀ k : Fin 7, k.val ≤ h.val → lvl (bat h l k) = k.val ∧ bat h l k < 2 * 2 ^ h.val - 1 ∧ bat h l k ≤ 126 ∧ (k.val + 1 ≤ h.val → (bat h l (k.val + 1) - 1) / 2 = bat h l k ∧ 0 < bat h l (k.val + 1)) := by decide +kernel

theorem bat_facts {h l k : Nat} (h1 : h ≤ 6) (h2 : l < 2 ^ h) (h3 : k ≤ h) : lvl (bat h l k) = k ∧ bat h l k < 2 * 2 ^ h - 1 ∧ bat h l k ≤ 126 ∧ (k + 1 ≤ h → (bat h l (k + 1) - 1) / 2 = bat h l k ∧ 0 < bat h l (k + 1)) :=
  small ⟨h, by omega⟩ ⟨l, by have := (pow_le6 h h1).2; omega⟩ h2 ⟨k, by omega⟩ h3

theorem bat_zero {h l : Nat} (h2 : l < 2 ^ h) : bat h l 0 = 0 := by
  unfold bat
  rw [Nat.sub_zero, Nat.div_eq_of_lt h2]

theorem bat_top (h l : Nat) : bat h l h = 2 ^ h - 1 + l := by
  unfold bat
  rw [Nat.sub_self, Nat.pow_zero, Nat.div_one]

theorem lvl_small : ∀ h : Fin 7, ∀ b : Fin 127, b.val < 2 * 2 ^ h.val - 1 → lvl b ≤ h.val := by decide +kernel

theorem lvl_le {h b : Nat} (h1 : h ≤ 6) (hb : b < 2 * 2 ^ h - 1) : lvl b ≤ h :=
  lvl_small ⟨h, by omega⟩ ⟨b, by have := (pow_le6 h h1).2; omega⟩ hb

/-- On the path: told by the bucket's own level. -/
theorem on_iff {h l b : Nat} (h1 : h ≤ 6) (h2 : l < 2 ^ h) (hb : b < 2 * 2 ^ h - 1) : (b : Int) ∈ path h l ↔ bat h l (lvl b) = b := by
  rw [path_mem]
  constructor
  · rintro ⟨k, hk, e⟩
    have e : b = bat h l k := by omega
    rw [e, (bat_facts h1 h2 hk).1]
  · intro e
    exact ⟨lvl b, lvl_le h1 hb, by omega⟩

theorem path_lt {h l : Nat} (h1 : h ≤ 6) (h2 : l < 2 ^ h) {b : Int} (hb : b ∈ path h l) : 0 ≤ b ∧ b < bks h := by
  obtain ⟨k, hk, rfl⟩ := (path_mem h l b).1 hb
  have := (bat_facts h1 h2 hk).2.1
  rw [bks_of h1]
  omega

theorem bitLen_lt (x d : Nat) (hx : x < 2 ^ 64) (hd : d ≤ 64) : bitLen x ≤ d ↔ x < 2 ^ d := by
  constructor
  · intro hl
    rcases Nat.lt_or_ge x (2 ^ d) with h | h
    · exact h
    · exfalso
      have e := bitLen_shift d x h hx
      have h3 : x / 2 ^ d ≠ 0 := by
        have : 1 ≤ x / 2 ^ d := (Nat.le_div_iff_mul_le (Nat.two_pow_pos d)).2 (by omega)
        omega
      have h4 : x / 2 ^ d < 2 ^ 64 := Nat.lt_of_le_of_lt (Nat.div_le_self _ _) hx
      have e2 := bitLen_half (x / 2 ^ d) h3 h4
      omega
  · exact fun h => bitLen_le x d hd h

theorem bat_eq {h a b k : Nat} : bat h a k = bat h b k ↔ a / 2 ^ (h - k) = b / 2 ^ (h - k) := by
  unfold bat
  omega

theorem xor_zero_iff (a b : Nat) : a ^^^ b = 0 ↔ a = b := by
  constructor
  · intro e
    have h : (a ^^^ b) ^^^ b = a := by rw [Nat.xor_assoc, Nat.xor_self, Nat.xor_zero]
    rw [e, Nat.zero_xor] at h
    exact h.symm
  · rintro rfl
    exact Nat.xor_self a

theorem xor_div (a b d : Nat) : (a ^^^ b) / 2 ^ d = 0 ↔ a / 2 ^ d = b / 2 ^ d := by
  rw [← Nat.shiftRight_eq_div_pow, ← Nat.shiftRight_eq_div_pow, ← Nat.shiftRight_eq_div_pow, Nat.shiftRight_xor_distrib, xor_zero_iff]

theorem xor_lt {a b : Nat} (ha : a < 64) (hb : b < 64) : a ^^^ b < 64 := Nat.xor_lt_two_pow (n := 6) ha hb

theorem same_iff {h a b k : Nat} (h1 : h ≤ 6) (ha : a < 64) (hb : b < 64) (hk : k ≤ h) : bat h a k = bat h b k ↔ (k : Int) ≤ shr h a b := by
  have hx := xor_lt ha hb
  rw [bat_eq, ← xor_div, Nat.div_eq_zero_iff_lt (Nat.two_pow_pos _), ← bitLen_lt _ _ (by omega) (by omega)]
  unfold shr
  omega

theorem shr_bounds {h a b : Nat} (h1 : h ≤ 6) (ha : a < 2 ^ h) (hb : b < 2 ^ h) : 0 ≤ shr h a b ∧ shr h a b ≤ h := by
  have := bitLen_le (a ^^^ b) h (by omega) (Nat.xor_lt_two_pow ha hb)
  unfold shr
  omega

theorem shr_top {h a b : Nat} (h1 : h ≤ 6) (ha : a < 2 ^ h) (hb : b < 2 ^ h) : shr h a b = h ↔ a = b := by
  have hp := (pow_le6 h h1).2
  have e := same_iff (h := h) (a := a) (b := b) (k := h) h1 (by omega) (by omega) (Nat.le_refl _)
  have e2 := shr_bounds h1 ha hb
  rw [bat_top, bat_top] at e
  omega

theorem shr_comm (h a b : Nat) : shr h a b = shr h b a := by
  unfold shr
  rw [Nat.xor_comm]

theorem shr_near {h a b c : Nat} (h1 : h ≤ 6) (ha : a < 2 ^ h) (hb : b < 2 ^ h) (hc : c < 2 ^ h) : min (shr h a b) (shr h b c) ≤ shr h a c := by
  have hp := (pow_le6 h h1).2
  have b1 := shr_bounds h1 ha hb
  have b2 := shr_bounds h1 hb hc
  obtain ⟨m, hm⟩ : ∃ m : Nat, (m : Int) = min (shr h a b) (shr h b c) := ⟨(min (shr h a b) (shr h b c)).toNat, by omega⟩
  have e1 := (same_iff (k := m) h1 (a := a) (b := b) (by omega) (by omega) (by omega)).2 (by omega)
  have e2 := (same_iff (k := m) h1 (a := b) (b := c) (by omega) (by omega) (by omega)).2 (by omega)
  have e3 := (same_iff (k := m) h1 (a := a) (b := c) (by omega) (by omega) (by omega)).1 (e1.trans e2)
  omega

/-- Levels, as the document climbs. -/
theorem lvl_step (b : Nat) (h0 : 0 < b) (h1 : b ≤ 9223372036854775807) : lvl b = lvl ((b - 1) / 2) + 1 := by
  unfold lvl
  rw [bitLen_half (b + 1) (by omega) (by omega), show (b + 1) / 2 = (b - 1) / 2 + 1 by omega]
  have := bitLen_half ((b - 1) / 2 + 1) (by omega) (by omega)
  omega

theorem lvl_zero : lvl 0 = 0 := by decide +kernel

end Go.Proofs.Ytkaohjlnlgennaa.tm
