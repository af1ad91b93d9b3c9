/- Contracts of the reader's NewReader, Num, Raw, End. -/
import Derived.Test.YtlcbfdbnjohicaaRea
namespace Go.Proofs.Ytlcbfdbnjohicaa.st
open Go.ChangeShapes Go.WideShapes Go.ChangeAt Go.RowKit Go.Proofs.Ytlcbfdbnjohicaa.hp Go.Proofs.Ytlcbfdbnjohicaa.dg
set_option linter.unusedVariables false

/-- A reader: what is left, why it failed. -/
abbrev RS := List Int × Int

def tak (s : RS) (n : Int) (al : Bool) : RS := if s.2 ≠ 0 then s else if al = false then (s.1, 1) else if (s.1.length : Int) < n then (s.1, 3) else (s.1.drop n.toNat, 0)
/-- What is told of a call that left the state t. -/
def got (s t : RS) (n : Int) : List Int := if t.2 = 0 then s.1.take n.toNat else []

theorem got_bytes {s t : RS} (h : Bytes s.1) (n : Int) : Bytes (got s t n) := by
  unfold got
  split
  · exact h.take _
  · intro x hx
    simp at hx

theorem tak_len {s : RS} {n : Int} {al : Bool} (h0 : al = true → 0 ≤ n) (h : (tak s n al).2 = 0) : s.2 = 0 ∧ al = true ∧ 0 ≤ n ∧ n ≤ s.1.length ∧ tak s n al = (s.1.drop n.toNat, 0) ∧ (got s (tak s n al) n).length = n.toNat ∧ got s (tak s n al) n = s.1.take n.toNat := by
  have hg : got s (tak s n al) n = s.1.take n.toNat := by unfold got; rw [if_pos h]
  unfold tak at h
  split at h
  · contradiction
  · rename_i hs
    split at h
    · simp at h
    · rename_i ha
      split at h
      · simp at h
      · rename_i hl
        have ha' : al = true := by simpa using ha
        have hs' : s.2 = 0 := by simpa using hs
        have hn := h0 ha'
        refine ⟨hs', ha', hn, by omega, ?_, ?_, hg⟩
        · unfold tak
          rw [if_neg (by simpa using hs'), if_neg (by simp [ha']), if_neg hl]
        · rw [hg]
          simp
          omega

/-- What take answers. -/
def TakR (w : World) (p : Nat) (F : Nat → Prop) (s : RS) (n : Int) (al : Bool) (e : Ending) (w' : World) : Prop :=
  ∃ a c J, e = .returned (.slice a (got s (tak s n al) n).length c) ∧ RAt w p F (tak s n al) w' ∧ Lies J w' (.slice a (got s (tak s n al) n).length c) ((got s (tak s n al) n).map (Value.int .u8))

theorem RAt.refl {w : World} {p : Nat} {F : Nat → Prop} {s : RS} (h : Rea w p F s.1 s.2) : RAt w p F s w := ⟨h, Chg.refl _ _⟩

theorem RAt.nil {w w' : World} {p : Nat} {F : Nat → Prop} {s t : RS} {n : Int} {al : Bool} (ht : tak s n al = t) (h0 : t.2 ≠ 0) (h : RAt w p F t w') : TakR w p F s n al (.returned (.slice none 0 0)) w' := by
  have e : got s (tak s n al) n = [] := by unfold got; rw [ht, if_neg h0]
  refine ⟨none, 0, no, ?_, by rw [ht]; exact h, ?_⟩
  · rw [e]; rfl
  · rw [e]; exact .inl ⟨rfl, rfl⟩

theorem take_any {w : World} {p : Nat} {F : Nat → Prop} {s : RS} (h : Rea w p F s.1 s.2) (n : Int) (al : Bool) (h0 : al = true → 0 ≤ n) :
    Calls Try.prog 44 #[.pointer (some ⟨p, 0, none⟩), .int .i64 n, .bool al] w (TakR w p F s n al) := by
  obtain ⟨zs, er⟩ := s
  simp only at h
  by_cases he : er = 0
  · subst he
    cases al with
    | false =>
      refine (take_range h n).mono ?_
      rintro e w' ⟨rfl, hR⟩
      exact RAt.nil (t := (zs, 1)) (by simp [tak]) (by simp) hR
    | true =>
      obtain ⟨k, rfl⟩ := Int.eq_ofNat_of_zero_le (h0 rfl)
      by_cases hl : (zs.length : Int) < k
      · refine (take_short h k hl).mono ?_
        rintro e w' ⟨rfl, hR⟩
        exact RAt.nil (t := (zs, 3)) (by simp [tak]; omega) (by simp) hR
      · refine (take_ok h k (by omega)).mono ?_
        rintro e w' ⟨a, c, J, rfl, hR, hL⟩
        have ht : tak (zs, 0) k true = (zs.drop k, 0) := by simp [tak]; omega
        have e : got (zs, 0) (tak (zs, 0) k true) k = zs.take k := by rw [ht]; simp [got]
        have e2 : (zs.take k).length = k := by simp; omega
        refine ⟨a, c, J, by rw [e, e2], by rw [ht]; exact hR, by rw [e, e2]; exact hL⟩
  · refine (take_failed h he n al).mono ?_
    rintro e w' ⟨rfl, rfl⟩
    exact RAt.nil (t := (zs, er)) (by simp [tak, he]) he (RAt.refl h)

def isw (a : Int) : Bool := decide (1 ≤ a ∧ a ≤ 7)
theorem isw_le {a : Int} (h : isw a = true) : 0 ≤ a := by
  have := of_decide_eq_true h
  omega
/-- The number that Num tells. -/
def tval (s : RS) (a : Int) : Int := if (tak s a (isw a)).2 = 0 then told (s.1.take a.toNat) else 0

theorem newReader_any {J : Nat → Prop} (w : World) (v : Value) (zs : List Int) (hv : Lies J w v (zs.map (Value.int .u8))) (hb : Bytes zs) (hl : zs.length ≤ 100000000) :
    Calls Try.prog 30 #[v] w fun e w' => ∃ p, e = .returned (.pointer (some ⟨p, 0, none⟩)) ∧ Rea w' p (fun k => w.heap.size ≤ k ∧ k < w'.heap.size) zs 0 ∧ Chg no w w' := by
  have HC := clone_any v zs J w hv hl
  obtain ⟨x, c, rfl, _⟩ := hv.slice
  clear hv
  simp only [List.length_map] at HC ⊢
  go_enter Try.func30, Try.ntmps30
  go_wp2_with fail
  refine HC.mono ?_
  rintro e w1 ⟨v1, rfl, o1, k1⟩
  have hlen := o1.1
  have HO : Hid (w1.ownsRow w.heap.size 5 1 v1 zs.length (zs.map (Value.int .u8))) := o1
  have hcap : ∃ a cc, v1 = .slice a zs.length cc ∧ zs.length ≤ cc ∧ cc ≤ 9223372036854775807 := by
    rcases o1.2 with ⟨rfl, h0⟩ | ⟨g, cap, cur, rfl, hb', hg, hc, hm, hs, ht⟩
    · exact ⟨_, _, by rw [h0], by omega, by omega⟩
    · exact ⟨_, _, rfl, hc, by unfold maxLen at hm; omega⟩
  obtain ⟨a, cc, rfl, q1, q2⟩ := hcap
  clear HC o1
  go_wp2
  go_ret
  refine ⟨w1.heap.size, rfl, ⟨fun k => w.heap.size ≤ k ∧ k < w1.heap.size, a, cc, ?_, ?_, ⟨q1, q2⟩, hb, ?_, ?_, ?_, ?_⟩, k1.alloc _⟩
  · exact heap_alloc_new _ _
  · exact (Lies.of_owns HO.out (fun k hk => HO.out.lt k hk)).chg ((Chg.refl no w1).alloc _) (fun _ _ h => h)
  · intro e; omega
  · intro k hk
    exact ⟨hk.1, by simp; omega⟩
  · exact ⟨k1.size, by simp⟩
  · intro k hk
    exact hk.2

theorem rraw_any {w : World} {p : Nat} {F : Nat → Prop} {s : RS} (h : Rea w p F s.1 s.2) (hl : s.1.length ≤ 100000000) (n : Int) :
    Calls Try.prog 40 #[.pointer (some ⟨p, 0, none⟩), .int .i64 n] w fun e w' => ∃ v w1, e = .returned v ∧ w'.ownsRow w.heap.size 5 1 v (got s (tak s n (decide (0 ≤ n))) n).length ((got s (tak s n (decide (0 ≤ n))) n).map (Value.int .u8)) ∧ RAt w p F (tak s n (decide (0 ≤ n))) w1 ∧ Chg no w1 w' := by
  have HT := take_any h n (decide (0 ≤ n)) of_decide_eq_true
  have hg : (got s (tak s n (decide (0 ≤ n))) n).length ≤ 100000000 := by
    unfold got
    split
    · have := List.length_take_le' n.toNat s.1
      omega
    · simp
  have HP : ∀ (t : RS) (g : List Int), g.length ≤ 100000000 → (Calls Try.prog 44 #[.pointer (some ⟨p, 0, none⟩), .int .i64 n, .bool (decide (0 ≤ n))] w fun e w' => ∃ a c J, e = .returned (.slice a g.length c) ∧ RAt w p F t w' ∧ Lies J w' (.slice a g.length c) (g.map (Value.int .u8))) →
      Calls Try.prog 40 #[.pointer (some ⟨p, 0, none⟩), .int .i64 n] w fun e w' => ∃ v w1, e = .returned v ∧ w'.ownsRow w.heap.size 5 1 v g.length (g.map (Value.int .u8)) ∧ RAt w p F t w1 ∧ Chg no w1 w' := by
    intro t g hg HT
    clear h hl
    by_cases hn : 0 ≤ n
    · rw [decide_eq_true hn] at HT
      go_enter Try.func40, Try.ntmps40
      go_wp2_with fail
      refine HT.mono ?_
      rintro e w1 ⟨a, c, J, rfl, hR, hL⟩
      have HC := clone_any _ g J w1 hL hg
      have HR : Hid (RAt w p F t w1) := hR
      have hz := hR.2.size
      clear HT hL hR
      go_wp2_with fail
      refine HC.mono ?_
      rintro e w2 ⟨v2, rfl, o2, k2⟩
      have HO : Hid (w2.ownsRow w.heap.size 5 1 v2 g.length (g.map (Value.int .u8))) := owns_base o2 hz
      clear HC o2
      go_wp2
      go_ret
      exact ⟨v2, w1, rfl, HO.out, HR.out, k2⟩
    · rw [decide_eq_false hn] at HT
      go_enter Try.func40, Try.ntmps40
      go_wp2_with fail
      refine HT.mono ?_
      rintro e w1 ⟨a, c, J, rfl, hR, hL⟩
      have HC := clone_any _ g J w1 hL hg
      have HR : Hid (RAt w p F t w1) := hR
      have hz := hR.2.size
      clear HT hL hR
      go_wp2_with fail
      refine HC.mono ?_
      rintro e w2 ⟨v2, rfl, o2, k2⟩
      have HO : Hid (w2.ownsRow w.heap.size 5 1 v2 g.length (g.map (Value.int .u8))) := owns_base o2 hz
      clear HC o2
      go_wp2
      go_ret
      exact ⟨v2, w1, rfl, HO.out, HR.out, k2⟩
  exact HP _ _ hg HT

set_option maxHeartbeats 2000000 in
/-- Num, behind take: the bytes g were taken. -/
theorem rnum_of {w : World} {p : Nat} {F : Nat → Prop} (a : Int) (t : RS) (g : List Int) (T : Int) (hT : T = if t.2 = 0 then told g else 0) (hb : Bytes g) (hg : t.2 = 0 → 1 ≤ a ∧ a ≤ 7 ∧ (g.length : Int) = a)
    (HT : Calls Try.prog 44 #[.pointer (some ⟨p, 0, none⟩), .int .i64 a, .bool (isw a)] w fun e w' => ∃ b c J, e = .returned (.slice b g.length c) ∧ RAt w p F t w' ∧ Lies J w' (.slice b g.length c) (g.map (Value.int .u8))) :
    Calls Try.prog 39 #[.pointer (some ⟨p, 0, none⟩), .int .i64 a] w fun e w' => e = .returned (.int .i64 T) ∧ RAt w p F t w' := by
  have HW : Calls Try.prog 34 #[.int .i64 a] w fun e w' => e = .returned (.bool (isw a)) ∧ w' = w := isWidth_any w a
  obtain ⟨B, hB⟩ : ∃ B, isw a = B := ⟨_, rfl⟩
  rw [hB] at HW HT
  clear hB
  by_cases ht : t.2 = 0
  · obtain ⟨h1, h2, h3⟩ := hg ht
    rw [if_pos ht] at hT
    have h7 : g.length ≤ 7 := by omega
    have HTT : Hid (T = if dec 0 g = most g.length then -1 else dec 0 g) := hT
    have HB : Hid (Bytes g) := hb
    have HM := fun w => allOnes_any w g.length (by omega) h7
    rw [h3] at HM
    obtain ⟨M, hM⟩ : ∃ M, most g.length = M := ⟨_, rfl⟩
    rw [hM] at HM HTT
    clear hg hT hM hb
    have i2 : (g.length : Int) ≤ 7 := by omega
    go_enter Try.func39, Try.ntmps39
    go_wp2_with fail
    refine HW.mono ?_
    rintro e w1 ⟨rfl, rfl⟩
    go_wp2_with fail
    refine HT.mono ?_
    rintro e w2 ⟨b, c, J, rfl, hR, hL⟩
    have HR : Hid (RAt w1 p F t w2) := hR
    obtain ⟨x, c', hx, hcell⟩ := hL.slice
    simp only [List.length_map] at hx
    cases hx
    have HJ : Hid (∀ j, j < g.length → ∃ y, b = some y ∧ w2.cell? (y.add j) = some (.int .u8 (g.getD j 0))) := by
      intro j hj
      obtain ⟨y, hy, hy2, hy3⟩ := hcell j (.int .u8 (g.getD j 0)) (by rw [List.getElem?_map, List.getD_eq_getElem?_getD, List.getElem?_eq_getElem hj]; rfl)
      exact ⟨y, hy, hy3⟩
    obtain ⟨⟨J', a', c'', hr⟩, hC⟩ := hR
    obtain ⟨c0, c1, c2, c3⟩ := hr.cells
    rw [ht] at c1
    clear hcell hL hr hC HT HW c0 c2 c3
    go_wp2_with fail
    go_loop [6, 21] (fun n i => ∃ j : Nat, j ≤ g.length ∧ n = .int .i64 (dec 0 (g.take j)) ∧ i = .int .i64 (j : Int)) (fun _ i => g.length - (intOf i).toNat)
    case atStart => exact ⟨0, by omega, rfl, rfl⟩
    case round =>
      clear c1
      obtain ⟨j, hj, rfl, rfl⟩ := hrel
      by_cases hjn : j < g.length
      · have hji : (j : Int) < g.length := by omega
        obtain ⟨y, rfl, hc⟩ := HJ.out j hjn
        obtain ⟨b1, b2⟩ := dec_small HB.out h7 j hjn
        obtain ⟨d1, d2⟩ := HB.out.get j
        have HS : Hid (dec 0 (g.take (j + 1)) = dec 0 (g.take j) * 256 + g.getD j 0) := dec_take g j hjn
        obtain ⟨D, hD⟩ : ∃ D, g.getD j 0 = D := ⟨_, rfl⟩
        obtain ⟨N, hN⟩ : ∃ N, dec 0 (g.take j) = N := ⟨_, rfl⟩
        rw [hD] at hc d1 d2 HS
        rw [hN] at b1 b2 HS ⊢
        have ho := or_byte N D b1 (by omega) d1 d2
        clear hD hN
        go_wp2
        go_round
        case rel => exact ⟨j + 1, by omega, by rw [HS.out], by go_num⟩
        case measure => simp [intOf]; omega
      · obtain rfl : j = g.length := by omega
        have hji : (g.length : Int) ≤ (g.length : Int) := by omega
        rw [List.take_length]
        have HM2 := HM w2
        obtain ⟨N, hN⟩ : ∃ N, dec 0 g = N := ⟨_, rfl⟩
        rw [hN] at HTT ⊢
        clear hN HJ HM
        by_cases he : N = M
        · subst he
          go_wp2_with fail
          refine HM2.mono ?_
          rintro e w5 ⟨rfl, rfl⟩
          go_wp2
          go_ret
          exact ⟨ret_int (by rw [HTT.out]; simp), HR.out⟩
        · have heb : (N == M) = false := by simpa using he
          go_wp2_with fail
          refine HM2.mono ?_
          rintro e w5 ⟨rfl, rfl⟩
          go_wp2
          go_ret
          exact ⟨ret_int (by rw [HTT.out, if_neg he]), HR.out⟩
  · rw [if_neg ht] at hT
    subst hT
    obtain ⟨E, hE⟩ : ∃ E, t.2 = E := ⟨_, rfl⟩
    rw [hE] at ht
    have HE : Hid (t.2 = E) := hE
    clear hg hb hE
    go_enter Try.func39, Try.ntmps39
    go_wp2_with fail
    refine HW.mono ?_
    rintro e w1 ⟨rfl, rfl⟩
    go_wp2_with fail
    refine HT.mono ?_
    rintro e w2 ⟨b, c, J, rfl, hR, hL⟩
    have HR : Hid (RAt w1 p F t w2) := hR
    obtain ⟨⟨J', a', c'', hr⟩, hC⟩ := hR
    obtain ⟨c0, c1, c2, c3⟩ := hr.cells
    rw [HE.out] at c1
    clear hL hr hC HT HW c0 c2 c3
    go_wp2
    go_ret
    exact ⟨rfl, HR.out⟩

theorem rnum_r {w : World} {p : Nat} {F : Nat → Prop} {s : RS} (h : Rea w p F s.1 s.2) (a : Int) :
    Calls Try.prog 39 #[.pointer (some ⟨p, 0, none⟩), .int .i64 a] w fun e w' => e = .returned (.int .i64 (tval s a)) ∧ RAt w p F (tak s a (isw a)) w' := by
  have hb : Bytes s.1 := by
    obtain ⟨J, x, c, h⟩ := h
    exact h.byt
  refine rnum_of a (tak s a (isw a)) (got s (tak s a (isw a)) a) (tval s a) ?_ (got_bytes hb a) ?_ (take_any h a (isw a) isw_le)
  · unfold tval
    by_cases e : (tak s a (isw a)).2 = 0
    · rw [if_pos e, if_pos e, (tak_len isw_le e).2.2.2.2.2.2]
    · rw [if_neg e, if_neg e]
  · intro e
    obtain ⟨_, h2, h3, h4, _, h6, _⟩ := tak_len isw_le e
    have := of_decide_eq_true h2
    exact ⟨this.1, this.2, by omega⟩

theorem end1_any (w : World) (z : Int) : Calls Try.prog 42 #[.int .u8 z] w fun e w' => e = .returned (.bool (z != 0)) ∧ w' = w := by
  go_enter Try.func42, Try.ntmps42
  go_wp2
  go_ret
  exact ⟨rfl, rfl⟩

end Go.Proofs.Ytlcbfdbnjohicaa.st
