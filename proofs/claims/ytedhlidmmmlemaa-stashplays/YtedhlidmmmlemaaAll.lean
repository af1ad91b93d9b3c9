/- The contract of All. -/
import Derived.Test.YtedhlidmmmlemaaLst
namespace Go.Proofs.Ytedhlidmmmlemaa.st
open Go.ChangeShapes Go.WideShapes Go.ChangeAt Go.RowKit Go.Proofs.Ytedhlidmmmlemaa.hp
set_option linter.unusedVariables false
set_option linter.unusedSimpArgs false

theorem made_b (n : Nat) : (madeCells bz.cells (n * 2)).toList = (List.replicate n dBV).flatMap fb := by
  have hl : ((List.replicate n dBV).flatMap fb).length = n * 2 := by
    rw [flat_length lenb, List.length_replicate]
  apply List.ext_getElem
  · rw [hl, Array.length_toList, size_madeCells]
  · intro i h1 h2
    rw [hl] at h2
    have hq : i / 2 < (List.replicate n dBV).length := by rw [List.length_replicate]; omega
    have hg := flat_get lenb (List.replicate n dBV) (i / 2) (i % 2) (by omega) dBV (by rw [List.getElem?_eq_getElem hq]; simp)
    rw [show i / 2 * 2 + i % 2 = i by omega] at hg
    have hz : bz.cells.size = 2 := rfl
    have : (madeCells bz.cells (n * 2)).toList[i]? = (fb dBV)[i % 2]? := by
      simp only [madeCells, Array.toList_map, Array.toList_range, List.getElem?_map, List.getElem?_range h2, hz]
      have hm : i % 2 = 0 ∨ i % 2 = 1 := by omega
      rcases hm with e | e <;> simp only [Option.map_some, e] <;> rfl
    have e2 := this.trans hg.symm
    rw [List.getElem?_eq_getElem h1, List.getElem?_eq_getElem (by rw [hl]; exact h2)] at e2
    exact Option.some.inj e2

/-- The row of All, its first k blocks laid. -/
structure AllR (w : World) (xs : List BV) (n k : Nat) (ys : List BV) (wr : World) : Prop where
  len : ys.length = k
  told : abs ys = (abs xs).take k
  row : wr.heap[w.heap.size]? = some (.cells ((ys ++ List.replicate (n - k) dBV).flatMap fb).toArray 36 (0, 0))
  dat : ∀ x ∈ ys, Lies (fun b => w.heap.size < b ∧ b < wr.heap.size) wr x.v (x.d.map (Value.int .u8)) ∧ Bytes x.d
  chg : Chg no w wr

/-- Blocks in new memory. -/
structure Shown (w w' : World) (v : Value) (ys : List BV) : Prop where
  row : Lie (Anew w w') w' v ys.length (ys.flatMap fb)
  dat : ∀ x ∈ ys, Lies (Anew w w') w' x.v (x.d.map (Value.int .u8)) ∧ Bytes x.d
  chg : Chg no w w'

theorem Shown.bks {w w' : World} {v : Value} {ys : List BV} (h : Shown w w' v ys) : Bks w' v ys := ⟨Lie.old h.row, fun x hx => ⟨Lies.old (h.dat x hx).1, (h.dat x hx).2⟩⟩

theorem Shown.later {w w1 w2 : World} {v : Value} {ys : List BV} (h : Shown w w1 v ys) (k : Chg no w1 w2) : Shown w w2 v ys :=
  ⟨(h.row.same k).mono (fun b hb => ⟨hb.1, by have := hb.2; have := k.size; omega⟩), fun x hx => ⟨((h.dat x hx).1.chg k (fun _ _ h => h)).mono (fun b hb => ⟨hb.1, by have := hb.2; have := k.size; omega⟩), (h.dat x hx).2⟩, h.chg.then k⟩

theorem AllR.step {w wr w2 w3 : World} {xs ys : List BV} {n k : Nat} (h : AllR w xs n k ys wr) (hn : xs.length = n) (hk : k < n) (i1 : Int) (v1 : Value) (zs : List Int) (hx : (xs.getD k dBV).bk = (i1, zs)) (hb : Bytes zs) (k2 : Chg no wr w2) (hv : Lies (Anew wr w2) w2 v1 (zs.map (Value.int .u8)))
    (h3 : w3 = (w2.setCell ⟨w.heap.size, k * 2, none⟩ (.int .i64 i1)).setCell ⟨w.heap.size, k * 2 + 1, none⟩ v1) : AllR w xs n (k + 1) (ys ++ [⟨i1, v1, zs⟩]) w3 := by
  have hr := k2.heap h.row (fun h => h)
  have r1 := row_set (row_set hr (k * 2) (.int .i64 i1)) (k * 2 + 1) v1
  have K : Chg (fun b => b = w.heap.size) w2 w3 := by
    rw [h3]
    exact chg_two _ _ _ _ _ _
  have s1 := h.chg.size
  have s2 := k2.size
  have s3 := K.size
  have s0 := lt_of_block h.row
  refine ⟨by simp [h.len], ?_, ?_, ?_, ?_⟩
  · rw [take_snoc (abs xs) k dBk (by rw [abs_len, hn]; exact hk), ← h.told, abs_getD, hx]
    simp [abs, BV.bk]
  · rw [h3, r1, setB (ys ++ List.replicate (n - k) dBV) k ⟨i1, v1, zs⟩]
    congr 3
    rw [List.set_append_right _ _ (by rw [h.len]; omega), h.len, Nat.sub_self, show n - k = (n - (k + 1)) + 1 by omega, List.replicate_succ, List.set_cons_zero, List.append_assoc]
    rfl
  · intro x hxx
    rcases List.mem_append.1 hxx with hxx | hxx
    · exact ⟨(((h.dat x hxx).1.chg k2 (fun _ _ h => h)).chg K (fun b hb e => by have := hb.1; omega)).mono (fun b hb => ⟨hb.1, by have := hb.2; omega⟩), (h.dat x hxx).2⟩
    · simp at hxx
      subst hxx
      exact ⟨(hv.chg K (fun b hb e => by have := hb.1; omega)).mono (fun b hb => ⟨by have := hb.1; omega, by have := hb.2; omega⟩), hb⟩
  · exact (h.chg.then k2).trans K (fun b hb => .inr (by omega))

set_option maxRecDepth 100000 in
set_option maxHeartbeats 4000000 in
theorem all_any {F : Nat → Prop} {p : Nat} {L : List Bk} {m : Nat} {w : World} (h : St 64 36 F p L m w) :
    Calls Try.prog 26 #[pt p] w fun e w' => ∃ a c ys, e = .returned (.slice a ys.length c) ∧ abs ys = L ∧ Shown w w' (.slice a ys.length c) ys := by
  obtain ⟨i0, hi0, hz0, hz1, hz2⟩ := info_parts' info36
  obtain ⟨v, xs, D, h1, rfl, h3, h4, h5⟩ := h
  have hx : xs.length ≤ 64 := by rw [abs_len] at h4; omega
  have H1 : Hid (Stw 64 36 F D p v xs m w) := h1
  have H3 : Hid (okL (abs xs)) := h3
  obtain ⟨d0, _, _, _, d4⟩ := h1.cells
  obtain ⟨a0, c0, hv⟩ := h1.shape
  subst hv
  obtain ⟨n, hn⟩ : ∃ n, xs.length = n := ⟨_, rfl⟩
  have HL : Hid (xs.length = n) := hn
  rw [hn] at hx d0
  have hni : (n : Int) ≤ 64 := by omega
  have HDC : Hid (∀ W, Chg no w W → W.cell? ⟨p, 0, none⟩ = some (.slice a0 n c0) ∧ p < W.heap.size) := fun W k => ⟨k.cell d0 (fun h => h), Nat.lt_of_lt_of_le d4 k.size⟩
  clear h1 h3 h4 h5 hn
  go_enter Try.func26, Try.ntmps26
  go_wp2_with (at_make; refine wpList_make_full _ rfl _ _ 22 rfl w.heap.size 36 i0 bz 2 Try.underlying22 hi0 hz0 hz1 .i64 .i64 n n n rfl rfl rfl rfl ?c1 ?c2 ?c3 ?_)
  case c1 => rw [hz2]; omega
  case c2 => unfold maxLen; omega
  case c3 => omega
  intro w1 hown hg
  have k1 : Chg no w w1 := (Chg.refl no w).grown hg (by simp)
  have HR0 : Hid (AllR w xs n 0 [] w1) := by
    refine ⟨rfl, by simp [abs], ?_, fun x hx => by simp at hx, k1⟩
    obtain ⟨_, _, cur, hgc, h1, h2, h3, h4⟩ := owns_open (owns_base hown (Nat.zero_le _))
    rw [hgc]
    have hz : bz.cells.size = 2 := rfl
    rw [List.take_of_length_le (by omega)] at h4
    have h6 := h4.trans (made_b n)
    rw [h6]
    rfl
  obtain ⟨e0, e4⟩ := HDC.out w1 k1
  clear hown hg d0 d4
  go_wp2_with fail
  go_loopw [4, 5, 17] (fun _ _ i wr => ∃ (k : Nat) (ys : List BV), k ≤ n ∧ i = .int .i64 (k : Int) ∧ AllR w xs n k ys wr) (fun _ _ i _ => n - (intOf i).toNat)
  case atStart => exact ⟨0, [], by omega, rfl, HR0.out⟩
  case round =>
    clear HR0 e0 e4 k1
    obtain ⟨k, ys, hk, rfl, hR⟩ := hrel
    have HR : Hid (AllR w xs n k ys wr) := hR
    by_cases hkn : k < n
    · have hki : (k : Int) < n := by omega
      obtain ⟨y, ab, cb, rfl, e0, e1, _, hLd, hBy, hlt, hne⟩ := (H1.out.same hR.chg).bks.at k (by rw [HL.out]; exact hkn)
      have hok : (xs.getD k dBV).d.length = 37 := by
        have := (H3.out.2 _ (getD_mem (L := abs xs) (i := k) (by rw [abs_len, HL.out]; exact hkn))).2.2
        rw [abs_getD] at this
        exact this
      obtain ⟨⟨i1, v1, zs⟩, hx1⟩ : ∃ X, xs.getD k dBV = X := ⟨_, rfl⟩
      have HX : Hid ((xs.getD k dBV).bk = (i1, zs)) := by
        show _ = _
        rw [hx1]
        rfl
      rw [hx1] at e0 e1 hLd hBy hok
      simp only at e0 e1 hLd hBy hok
      rw [hok] at e1 hLd
      have HC := copyOf_any (wr.alloc (.cells #[.int .i64 i1, .slice ab 37 cb] 36)) i1 ab 37 cb zs (Lies.later hLd ((Chg.refl no wr).alloc _)) hok (by omega)
      have HBy : Hid (Bytes zs) := hBy
      clear hx1 hLd hBy hR
      go_wp2_with fail
      refine HC.mono ?_
      rintro e w2 ⟨a2, c2, rfl, l2, k2⟩
      have k2' : Chg no wr w2 := ((Chg.refl no wr).alloc _).then k2
      have hB := k2'.heap HR.out.row (fun h => h)
      have hll : ((ys ++ List.replicate (n - k) dBV).flatMap fb).length = n * 2 := by
        rw [flat_length lenb, List.length_append, List.length_replicate, HR.out.len]
        congr 1
        omega
      obtain ⟨x0, hx0⟩ : ∃ x0, ((ys ++ List.replicate (n - k) dBV).flatMap fb)[k * 2]? = some x0 := ⟨_, List.getElem?_eq_getElem (by omega)⟩
      obtain ⟨x1, hx1⟩ : ∃ x1, ((ys ++ List.replicate (n - k) dBV).flatMap fb)[k * 2 + 1]? = some x1 := ⟨_, List.getElem?_eq_getElem (by omega)⟩
      obtain ⟨f0, f1⟩ := row_cell hB (k * 2) x0 hx0
      obtain ⟨f2, f3⟩ := row_cell hB (k * 2 + 1) x1 hx1
      have f4 := lt_of_block hB
      have HE : Hid (AllR w xs n (k + 1) (ys ++ [⟨i1, .slice a2 37 c2, zs⟩]) ((w2.setCell ⟨w.heap.size, k * 2, none⟩ (.int .i64 i1)).setCell ⟨w.heap.size, k * 2 + 1, none⟩ (.slice a2 37 c2))) :=
        HR.out.step HL.out hkn i1 (.slice a2 37 c2) zs HX.out HBy.out k2' (l2.mono (fun b hb => ⟨by have := hb.1; simp at this; omega, hb.2⟩)) rfl
      clear k2 k2' l2 hB hll hx0 hx1 HX HC e0 e1 HR
      go_wp2
      go_roundw
      case rel => exact ⟨k + 1, _, by omega, by go_num, HE.out⟩
      case measure => simp [intOf]; omega
    · obtain rfl : k = n := by omega
      have hki : (k : Int) ≤ k := by omega
      have HF : Hid (∃ a c ys', (Value.slice (some ⟨w.heap.size, 0, none⟩) k k) = .slice a ys'.length c ∧ abs ys' = abs xs ∧ Shown w wr (.slice a ys'.length c) ys') := by
        have hr := HR.out.row
        rw [Nat.sub_self, List.replicate_zero, List.append_nil] at hr
        refine ⟨some ⟨w.heap.size, 0, none⟩, k, ys, by rw [HR.out.len], ?_, ?_, ?_, HR.out.chg⟩
        · rw [HR.out.told, List.take_of_length_le (by rw [abs_len, HL.out]; omega)]
        · refine .inr ⟨_, _, rfl, fun _ => ⟨Nat.le_refl _, lt_of_block hr⟩, fun i u hu => ?_⟩
          rw [Addr.add_lit, Nat.zero_add]
          exact (row_cell hr i u hu).1
        · intro x hx
          exact ⟨(HR.out.dat x hx).1.mono (fun b hb => ⟨by have := hb.1; omega, hb.2⟩), (HR.out.dat x hx).2⟩
      clear hR
      go_wp2
      go_ret
      obtain ⟨a, c, ys', e1, e2, e3⟩ := HF.out
      rw [e1]
      exact ⟨a, c, ys', rfl, e2, e3⟩

end Go.Proofs.Ytedhlidmmmlemaa.st
