/- Bytes xored; what is sealed is opened. -/
import Derived.Test.YtmchjnmmeankgaaMak
namespace Go.Proofs.Ytmchjnmmeankgaa.st
open Go.ChangeShapes Go.WideShapes Go.ChangeAt Go.RowKit Go.Proofs.Ytmchjnmmeankgaa.hp Go.Proofs.Ytmchjnmmeankgaa.dg
set_option linter.unusedVariables false

theorem xb_nat {x y : Int} (hx : 0 ≤ x ∧ x ≤ 255) (hy : 0 ≤ y ∧ y ≤ 255) : bits .xor .u8 x y = ((x.toNat ^^^ y.toNat : Nat) : Int) := u8_xor x y hx.1 (by omega) hy.1 (by omega)

theorem xb_byte {x y : Int} (hx : 0 ≤ x ∧ x ≤ 255) (hy : 0 ≤ y ∧ y ≤ 255) : 0 ≤ bits .xor .u8 x y ∧ bits .xor .u8 x y ≤ 255 := by
  rw [xb_nat hx hy]
  have := Nat.xor_lt_two_pow (x := x.toNat) (y := y.toNat) (n := 8) (by omega) (by omega)
  omega

theorem xb_toNat {x y : Int} (hx : 0 ≤ x ∧ x ≤ 255) (hy : 0 ≤ y ∧ y ≤ 255) : (bits .xor .u8 x y).toNat = x.toNat ^^^ y.toNat := by
  rw [xb_nat hx hy]
  simp

theorem xb_back {x y : Int} (hx : 0 ≤ x ∧ x ≤ 255) (hy : 0 ≤ y ∧ y ≤ 255) : bits .xor .u8 (bits .xor .u8 x y) y = x := by
  rw [xb_nat (xb_byte hx hy) hy, xb_toNat hx hy, Nat.xor_assoc, Nat.xor_self, Nat.xor_zero]
  omega

/-- One cell for two texts, byte by byte. -/
theorem xb_alike {f a b : Int} (hf : 0 ≤ f ∧ f ≤ 255) (ha : 0 ≤ a ∧ a ≤ 255) (hb : 0 ≤ b ∧ b ≤ 255) : bits .xor .u8 b (bits .xor .u8 (bits .xor .u8 f a) b) = bits .xor .u8 a f := by
  have h1 := xb_byte hf ha
  have h2 := xb_byte h1 hb
  rw [xb_nat hb h2, xb_toNat h1 hb, xb_toNat hf ha, xb_nat ha hf]
  congr 1
  rw [Nat.xor_comm (f.toNat ^^^ a.toNat) b.toNat, ← Nat.xor_assoc, Nat.xor_self, Nat.zero_xor, Nat.xor_comm]

theorem Bytes.at {l : List Int} (h : Bytes l) (i : Nat) : 0 ≤ l.getD i 0 ∧ l.getD i 0 ≤ 255 := by
  by_cases hi : i < l.length
  · rw [List.getD_eq_getElem?_getD, List.getElem?_eq_getElem hi]
    have := h _ (List.getElem_mem hi)
    simp
    omega
  · rw [List.getD_eq_getElem?_getD, List.getElem?_eq_none (by omega)]
    simp

theorem xor2_at (zs ys : List Int) (i : Nat) (hi : i < zs.length) : (xor2 zs ys).getD i 0 = if i < ys.length then bits .xor .u8 (zs.getD i 0) (ys.getD i 0) else zs.getD i 0 := by
  rw [List.getD_eq_getElem?_getD, xor2, xorK_get _ _ _ _ hi]
  simp only [Option.getD_some]
  by_cases h : i < ys.length
  · rw [if_pos (by omega), if_pos h]
  · rw [if_neg (by omega), if_neg h]

theorem list_at {l m : List Int} (hl : l.length = m.length) (h : ∀ i, i < l.length → l.getD i 0 = m.getD i 0) : l = m := by
  apply List.ext_getElem hl
  intro i h1 h2
  have := h i h1
  rw [List.getD_eq_getElem?_getD, List.getD_eq_getElem?_getD, List.getElem?_eq_getElem h1, List.getElem?_eq_getElem h2] at this
  exact this

theorem bytes_of {l : List Int} (h : ∀ i, i < l.length → 0 ≤ l.getD i 0 ∧ l.getD i 0 ≤ 255) : Bytes l := by
  intro x hx
  obtain ⟨i, hi, rfl⟩ := List.getElem_of_mem hx
  have := h i hi
  rw [List.getD_eq_getElem?_getD, List.getElem?_eq_getElem hi] at this
  simp at this
  omega

theorem xor2_bytes {zs ys : List Int} (hz : Bytes zs) (hy : Bytes ys) : Bytes (xor2 zs ys) := by
  apply bytes_of
  intro i hi
  rw [xor2_length] at hi
  rw [xor2_at zs ys i hi]
  split
  · exact xb_byte (hz.at i) (hy.at i)
  · exact hz.at i

theorem xor2_back {zs ys : List Int} (hz : Bytes zs) (hy : Bytes ys) : xor2 (xor2 zs ys) ys = zs := by
  apply list_at (by rw [xor2_length, xor2_length])
  intro i hi
  rw [xor2_length, xor2_length] at hi
  rw [xor2_at _ _ i (by rw [xor2_length]; exact hi), xor2_at _ _ i hi]
  split
  · exact xb_back (hz.at i) (hy.at i)
  · rfl

theorem padsOf_at (zs : List Int) (d n i : Nat) (hi : i < n) : (padsOf zs d n).getD i 0 = zs.getD (d + i) 0 := by
  rw [List.getD_eq_getElem?_getD]
  simp [padsOf, hi]

theorem padsOf_bytes {zs : List Int} (h : Bytes zs) (d n : Nat) : Bytes (padsOf zs d n) := by
  apply bytes_of
  intro i hi
  rw [padsOf_length] at hi
  rw [padsOf_at _ _ _ _ hi]
  exact h.at _

theorem cell_parts (S : OS) (g c : Int) (zs : List Int) : (S.cellOf (g, c) zs).take 12 = nbs g c ∧ (S.cellOf (g, c) zs).drop 12 = xor2 zs ((S.put (g, c) zs).padOf (g, c)) ∧ (S.cellOf (g, c) zs).length = 12 + zs.length := by
  unfold OS.cellOf
  refine ⟨?_, ?_, ?_⟩
  · rw [List.take_append_of_le_length (Nat.le_of_eq (nbs_length g c).symm)]
    exact List.take_of_length_le (Nat.le_of_eq (nbs_length g c))
  · have := List.drop_left (l₁ := nbs g c) (l₂ := xor2 zs ((S.put (g, c) zs).padOf (g, c)))
    rw [nbs_length] at this
    exact this
  · rw [List.length_append, nbs_length, xor2_length]

theorem put_L (S : OS) (n : Int × Int) (zs : List Int) : (S.put n zs).L = S.L := rfl
theorem put_zs (S : OS) (n : Int × Int) (zs : List Int) : (S.put n zs).zs = S.zs := rfl
theorem put_pl (S : OS) (n : Int × Int) (zs : List Int) : (S.put n zs).pl = S.pl ++ zs := rfl

theorem put_ks {S : OS} {n : Int × Int} (zs : List Int) (h : n ∉ S.ks) : (S.put n zs).ks = S.ks ++ [n] := by
  unfold OS.put OS.ask
  simp [h]

theorem pad_bytes {S : OS} (h : Bytes S.zs) (i : Nat) : Bytes (S.pad i) := padsOf_bytes h _ _

theorem cell_bytes {S : OS} (h : Bytes S.zs) (g c : Int) {zs : List Int} (hz : Bytes zs) : Bytes (S.cellOf (g, c) zs) := (nbs_bytes g c).append (xor2_bytes hz (pad_bytes (S := S.put (g, c) zs) h _))

/-- What was sealed is opened. -/
theorem cell_back {S : OS} {g c : Int} {zs : List Int} (hb : Bytes S.zs) (hz : Bytes zs) (hw : S.why g c zs.length = 0) : (S.put (g, c) zs).code (S.cellOf (g, c) zs) = 0 ∧ (S.put (g, c) zs).text (S.cellOf (g, c) zs) = zs := by
  obtain ⟨hm, hg, hL, hkn⟩ := why_zero hw
  obtain ⟨e1, e2, e3⟩ := cell_parts S g c zs
  have eg : cellG (S.cellOf (g, c) zs) = g := by unfold cellG; rw [e1]; exact (pg_nbs g c hm).1
  have ec : cellC (S.cellOf (g, c) zs) = c := by unfold cellC; rw [e1]; exact (pg_nbs g c hm).2
  have hk : (S.put (g, c) zs).knows (g, c) = true := by
    unfold OS.knows
    rw [put_ks zs (knows_false hkn)]
    simp
  have hl : ¬ ((S.cellOf (g, c) zs).length ≠ 12 + (S.put (g, c) zs).L) := by rw [e3, put_L, hL]; simp
  unfold OS.code OS.text
  have hm2 : ¬ (may g c = false) := by simp [hm]
  simp only [eg, ec, if_neg hl, if_neg hm2, if_neg hg, if_pos hk, e2]
  exact ⟨trivial, xor2_back hz (pad_bytes (S := S.put (g, c) zs) hb _)⟩

end Go.Proofs.Ytmchjnmmeankgaa.st
