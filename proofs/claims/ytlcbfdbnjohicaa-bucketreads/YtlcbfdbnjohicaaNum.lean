/- Contracts of the writer's Num and Raw. -/
import Derived.Test.YtlcbfdbnjohicaaWri
namespace Go.Proofs.Ytlcbfdbnjohicaa.st
open Go.ChangeShapes Go.WideShapes Go.ChangeAt Go.RowKit Go.Proofs.Ytlcbfdbnjohicaa.hp Go.Proofs.Ytlcbfdbnjohicaa.dg
set_option linter.unusedVariables false

/-- A writer: its bytes, and is it broken? -/
abbrev WS := List Int × Bool

def stp (width : Int) (s : WS) (n : Int) : WS := if s.2 then s else if okN width n then (s.1 ++ enc n width.toNat, false) else (s.1, true)
def brk (width : Int) (s : WS) : WS := (s.1, s.2 || !decide (1 ≤ width ∧ width ≤ 7))
def nums (width : Int) (s : WS) (ns : List Int) : WS := ns.foldl (stp width) (brk width s)
def raws (s : WS) (P : List (List Int)) : WS := if s.2 then s else (s.1 ++ P.flatten, false)

theorem okN_of (k : Nat) (n : Int) (h1 : 1 ≤ k) (h2 : k ≤ 7) : okN k n = decide (-1 ≤ n ∧ n < most k) := by
  unfold okN most
  simp only [Int.toNat_natCast]
  apply decide_eq_decide.2
  constructor
  · intro h; omega
  · intro h; omega

theorem stp_len (width : Int) (s : WS) (n : Int) : (stp width s n).1.length ≤ s.1.length + 7 := by
  unfold stp
  split
  · omega
  · split
    · rename_i h
      unfold okN at h
      simp [enc_length] at h ⊢
      omega
    · simp

theorem stp_fine (width : Int) (s : WS) (n : Int) (h : s.2 = false → 1 ≤ width ∧ width ≤ 7) : (stp width s n).2 = false → 1 ≤ width ∧ width ≤ 7 := by
  unfold stp
  split
  · exact h
  · intro _; exact h (by simpa using ‹¬ s.2 = true›)

theorem fold_fine (width : Int) (l : List Int) (s : WS) (h : s.2 = false → 1 ≤ width ∧ width ≤ 7) : (l.foldl (stp width) s).2 = false → 1 ≤ width ∧ width ≤ 7 := by
  induction l generalizing s with
  | nil => exact h
  | cons n l ih => exact ih _ (stp_fine width s n h)

theorem fold_len (width : Int) (l : List Int) (s : WS) : (l.foldl (stp width) s).1.length ≤ s.1.length + 7 * l.length := by
  induction l generalizing s with
  | nil => simp
  | cons n l ih =>
    have h1 := ih (stp width s n)
    have h2 := stp_len width s n
    simp only [List.foldl_cons, List.length_cons]
    omega

theorem fold_take (width : Int) (l : List Int) (s : WS) (j : Nat) (hj : j < l.length) : (l.take (j + 1)).foldl (stp width) s = stp width ((l.take j).foldl (stp width) s) (l.getD j 0) := by
  rw [List.take_succ_eq_append_getElem hj, List.foldl_append]
  simp [List.getD_eq_getElem?_getD, List.getElem?_eq_getElem hj]

theorem wid_self {F : Nat → Prop} {w : World} (k : Nat) : Wid F w w k → F k := fun h => by rcases h with h | h; exact h; omega

theorem number_any {w : World} {p : Nat} {F : Nat → Prop} {s : WS} (h : Wri w p F s.1 s.2) (hl : s.1.length ≤ 100000000) (a n : Int) (ha : s.2 = false → 1 ≤ a ∧ a ≤ 7) :
    Calls Try.prog 35 #[.pointer (some ⟨p, 0, none⟩), .int .i64 a, .int .i64 n] w fun e w' => e = .returned (.tuple #[]) ∧ Wri w' p (Wid F w w') (stp a s n).1 (stp a s n).2 ∧ Chg F w w' := by
  obtain ⟨bs, br⟩ := s
  simp only at h hl ha ⊢
  cases br with
  | true =>
    refine (number_broken h a n).mono ?_
    rintro e w' ⟨rfl, rfl⟩
    exact ⟨rfl, by simpa [stp] using h.wide (fun k hk => .inl hk) (fun k hk => h.lt k (wid_self k hk)), Chg.refl _ _⟩
  | false =>
    obtain ⟨k, rfl⟩ := Int.eq_ofNat_of_zero_le (show 0 ≤ a by have := ha rfl; omega)
    have h1 : 1 ≤ k := by have := ha rfl; omega
    have h2 : k ≤ 7 := by have := ha rfl; omega
    have hO := okN_of k n h1 h2
    by_cases hn : -1 ≤ n ∧ n < most k
    · refine (number_ok h hl k h1 h2 n hn.1 hn.2).mono ?_
      rintro e w' ⟨rfl, hW, hC⟩
      have e : stp k (bs, false) n = (bs ++ enc n k, false) := by
        unfold stp
        rw [hO, decide_eq_true hn]
        simp
      rw [e]
      exact ⟨rfl, hW, hC⟩
    · refine (number_bad h k h1 h2 n (by omega)).mono ?_
      rintro e w' ⟨rfl, hW, hC⟩
      have e : stp k (bs, false) n = (bs, true) := by
        unfold stp
        rw [hO, decide_eq_false hn]
        simp
      rw [e]
      exact ⟨rfl, hW.wide (fun k hk => .inl hk) (wid_lt h.lt hC.size), hC⟩

/-- A writer within a call that began in w. -/
def WAt (w : World) (p : Nat) (F : Nat → Prop) (s : WS) (wr : World) : Prop := Wri wr p (Wid F w wr) s.1 s.2 ∧ Chg F w wr

theorem WAt.start {w : World} {p : Nat} {F : Nat → Prop} {s : WS} (h : Wri w p F s.1 s.2) : WAt w p F s w := ⟨h.wide (fun k hk => .inl hk) (fun k hk => h.lt k (wid_self k hk)), Chg.refl _ _⟩

theorem WAt.step {w wr w' : World} {p : Nat} {F : Nat → Prop} {s s' : WS} (h : WAt w p F s wr) (hW : Wri w' p (Wid (Wid F w wr) wr w') s'.1 s'.2) (hC : Chg (Wid F w wr) wr w') : WAt w p F s' w' := by
  have s1 := h.2.size
  have s2 := hC.size
  refine ⟨hW.wide ?_ ?_, h.2.trans hC wid_sub⟩
  · intro k hk
    rcases hk with (hk | hk) | hk
    · exact .inl hk
    · exact .inr ⟨hk.1, by omega⟩
    · exact .inr ⟨by omega, hk.2⟩
  · intro k hk
    rcases hk with hk | hk
    · have := h.1.lt k (.inl hk)
      omega
    · exact hk.2

set_option maxHeartbeats 2000000 in
theorem num_any {w : World} {p : Nat} {F J : Nat → Prop} {s : WS} (h : Wri w p F s.1 s.2) (hl : s.1.length ≤ 90000000) (a : Int) (v : Value) (ns : List Int) (hv : Lies J w v (ns.map (Value.int .i64))) (hJ : ∀ k, J k → ¬ F k ∧ k < w.heap.size) (hn : ns.length ≤ 1000) :
    Calls Try.prog 23 #[.pointer (some ⟨p, 0, none⟩), .int .i64 a, v] w fun e w' => e = .returned (.pointer (some ⟨p, 0, none⟩)) ∧ WAt w p F (nums a s ns) w' := by
  obtain ⟨x, c, rfl, hcell⟩ := hv.slice
  simp only [List.length_map]
  have HJ : Hid (∀ wr, Chg F w wr → ∀ j, j < ns.length → ∃ y, x = some y ∧ wr.cell? (y.add j) = some (.int .i64 (ns.getD j 0))) := by
    intro wr hC j hj
    obtain ⟨y, hy, hy2, hy3⟩ := hcell j (.int .i64 (ns.getD j 0)) (by rw [List.getElem?_map, List.getD_eq_getElem?_getD, List.getElem?_eq_getElem hj]; rfl)
    exact ⟨y, hy, hC.cell hy3 (by rw [add_block]; exact (hJ _ hy2).1)⟩
  have HW := isWidth_any w a
  have hni : (ns.length : Int) ≤ 1000 := by omega
  have HF : Hid ((brk a s).2 = false → 1 ≤ a ∧ a ≤ 7) := by
    unfold brk
    intro h
    simp at h
    exact h.2
  have HL : Hid ((brk a s).1.length ≤ 90000000) := hl
  have HB : Hid ((1 ≤ a ∧ a ≤ 7 → WAt w p F (brk a s) w) ∧ (¬ (1 ≤ a ∧ a ≤ 7) → WAt w p F (brk a s) (w.setCell ⟨p, 1, none⟩ (.bool true)))) := by
    refine ⟨fun hw => ?_, fun hw => ?_⟩
    · have := WAt.start h
      simpa [brk, decide_eq_true hw] using this
    · obtain ⟨v0, h0⟩ := h
      have hb := h0.break
      have e : brk a s = (s.1, true) := by
        unfold brk
        rw [decide_eq_false hw]
        simp
      rw [e]
      exact ⟨⟨v0, hb.1.wide (fun k hk => .inl hk) (wid_lt h0.lt hb.2.size)⟩, hb.2⟩
  obtain ⟨v0, h0⟩ := h
  obtain ⟨c0, c1, c2, c3⟩ := h0.cells
  clear hcell hJ hv h0 hl
  have loop : ∀ (w2 : World), WAt w p F (brk a s) w2 → Hid (WAt w p F ((ns.take 0).foldl (stp a) (brk a s)) w2) := fun w2 h => h
  by_cases hw : 1 ≤ a ∧ a ≤ 7
  · rw [decide_eq_true hw] at HW
    have B0 := loop _ (HB.out.1 hw)
    clear loop HB hw
    go_enter Try.func23, Try.ntmps23
    go_wp2_with fail
    refine HW.mono ?_
    rintro e w1 ⟨rfl, rfl⟩
    clear HW
    go_wp2_with fail
    go_loopw [17] (fun i wr => ∃ j : Nat, j ≤ ns.length ∧ i = .int .i64 (j : Int) ∧ WAt w1 p F ((ns.take j).foldl (stp a) (brk a s)) wr) (fun i _ => ns.length - (intOf i).toNat)
    case atStart => exact ⟨0, by omega, rfl, B0.out⟩
    case round =>
      clear B0 c0 c1 c2 c3
      obtain ⟨j, hj, rfl, hB⟩ := hrel
      by_cases hjn : j < ns.length
      · have hji : (j : Int) < ns.length := by omega
        obtain ⟨y, rfl, hc⟩ := HJ.out wr hB.2 j hjn
        have ht : ((ns.take j).foldl (stp a) (brk a s)).1.length ≤ 100000000 := by
          have e1 := fold_len a (ns.take j) (brk a s)
          have e2 := HL.out
          have e3 := List.length_take_le j ns
          omega
        have HN := number_any hB.1 ht a (ns.getD j 0) (fold_fine a _ _ HF.out)
        have HS : Hid (∀ w', Wri w' p (Wid (Wid F w1 wr) wr w') (stp a ((ns.take j).foldl (stp a) (brk a s)) (ns.getD j 0)).1 (stp a ((ns.take j).foldl (stp a) (brk a s)) (ns.getD j 0)).2 → Chg (Wid F w1 wr) wr w' → WAt w1 p F ((ns.take (j + 1)).foldl (stp a) (brk a s)) w') := by
          intro w' q1 q2
          rw [fold_take a ns _ j hjn]
          exact hB.step q1 q2
        clear hB ht
        obtain ⟨N, hN⟩ : ∃ N, ns.getD j 0 = N := ⟨_, rfl⟩
        obtain ⟨T, hT⟩ : ∃ T, (ns.take j).foldl (stp a) (brk a s) = T := ⟨_, rfl⟩
        rw [hN] at hc HN HS
        rw [hT] at HN HS
        clear hN hT
        go_wp2_with fail
        refine HN.mono ?_
        rintro e w5 ⟨rfl, q1, q2⟩
        have q3 := HS.out _ q1 q2
        clear HN q1 q2
        go_wp2
        go_roundw
        case rel => exact ⟨j + 1, by omega, by go_num, q3⟩
        case measure => simp [intOf]; omega
      · obtain rfl : j = ns.length := by omega
        have hji : (ns.length : Int) ≤ (ns.length : Int) := by omega
        go_wp2
        go_ret
        refine ⟨rfl, ?_⟩
        rw [List.take_length] at hB
        exact hB
  · rw [decide_eq_false hw] at HW
    have B0 := loop _ (HB.out.2 hw)
    clear loop HB hw
    go_enter Try.func23, Try.ntmps23
    go_wp2_with fail
    refine HW.mono ?_
    rintro e w1 ⟨rfl, rfl⟩
    clear HW
    go_wp2_with fail
    go_loopw [17] (fun i wr => ∃ j : Nat, j ≤ ns.length ∧ i = .int .i64 (j : Int) ∧ WAt w1 p F ((ns.take j).foldl (stp a) (brk a s)) wr) (fun i _ => ns.length - (intOf i).toNat)
    case atStart => exact ⟨0, by omega, rfl, B0.out⟩
    case round =>
      clear B0 c0 c1 c2 c3
      obtain ⟨j, hj, rfl, hB⟩ := hrel
      by_cases hjn : j < ns.length
      · have hji : (j : Int) < ns.length := by omega
        obtain ⟨y, rfl, hc⟩ := HJ.out wr hB.2 j hjn
        have ht : ((ns.take j).foldl (stp a) (brk a s)).1.length ≤ 100000000 := by
          have e1 := fold_len a (ns.take j) (brk a s)
          have e2 := HL.out
          have e3 := List.length_take_le j ns
          omega
        have HN := number_any hB.1 ht a (ns.getD j 0) (fold_fine a _ _ HF.out)
        have HS : Hid (∀ w', Wri w' p (Wid (Wid F w1 wr) wr w') (stp a ((ns.take j).foldl (stp a) (brk a s)) (ns.getD j 0)).1 (stp a ((ns.take j).foldl (stp a) (brk a s)) (ns.getD j 0)).2 → Chg (Wid F w1 wr) wr w' → WAt w1 p F ((ns.take (j + 1)).foldl (stp a) (brk a s)) w') := by
          intro w' q1 q2
          rw [fold_take a ns _ j hjn]
          exact hB.step q1 q2
        clear hB ht
        obtain ⟨N, hN⟩ : ∃ N, ns.getD j 0 = N := ⟨_, rfl⟩
        obtain ⟨T, hT⟩ : ∃ T, (ns.take j).foldl (stp a) (brk a s) = T := ⟨_, rfl⟩
        rw [hN] at hc HN HS
        rw [hT] at HN HS
        clear hN hT
        go_wp2_with fail
        refine HN.mono ?_
        rintro e w5 ⟨rfl, q1, q2⟩
        have q3 := HS.out _ q1 q2
        clear HN q1 q2
        go_wp2
        go_roundw
        case rel => exact ⟨j + 1, by omega, by go_num, q3⟩
        case measure => simp [intOf]; omega
      · obtain rfl : j = ns.length := by omega
        have hji : (ns.length : Int) ≤ (ns.length : Int) := by omega
        go_wp2
        go_ret
        refine ⟨rfl, ?_⟩
        rw [List.take_length] at hB
        exact hB

end Go.Proofs.Ytlcbfdbnjohicaa.st
