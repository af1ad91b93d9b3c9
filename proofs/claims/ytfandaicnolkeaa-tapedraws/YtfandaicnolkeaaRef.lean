/- Contracts of the document's own tapes (oubref2.Leaves.Draw, oubref2.Pads.Draw) and of the copies that the statement takes. -/
import Derived.Test.YtfandaicnolkeaaState
import Derived.Laws.AppendOwnNone
namespace Go.Proofs.Ytfandaicnolkeaa.tp
open Go.ChangeShapes Go.WideShapes Go.ChangeAt Go.RowKit Go.Proofs.Ytfandaicnolkeaa.hp
set_option linter.unusedVariables false

theorem copyInts_any (a : Option Addr) (len cap : Nat) (zs : List Int) (w : World) (h : Arg .i64 w a len cap zs) (hl : len ≤ 100000) :
    Calls Try.prog 8 #[.slice a len cap] w fun e w' => ∃ a' c', e = .returned (.slice a' len c') ∧ w'.ownsRow w.heap.size 3 1 (.slice a' len c') len (zs.map (Value.int .i64)) ∧ Below w.heap.size w w' := by
  obtain ⟨i0, hi, hz0, hz1, hz2⟩ := info_parts info3
  have hmade := World.ownsRow_made (base := w.heap.size) (e := 3) (size := 1) w #[] 0 (Nat.le_refl _) (by unfold maxLen; omega) rfl
  rcases h with ⟨rfl, rfl, rfl, rfl⟩ | ⟨x, rfl, hz, hc⟩
  · go_enter Try.func8, Try.ntmps8
    go_wp2_with (at_builtin; refine wpList_append_own_none rfl _ _ 22 rfl w.heap.size 3 i0 1 Try.underlying22 hi _ 0 [] rfl hmade rfl ?_)
    go_ret
    exact ⟨_, _, rfl, hmade, (Below.refl _ w).alloc (Nat.le_refl _) _⟩
  · go_enter Try.func8, Try.ntmps8
    go_wp2_with (at_builtin; refine wpList_append_own _ rfl _ _ 22 rfl w.heap.size 3 i0 (.int .i64 0) 1 8 Try.underlying22 hi hz0 hz1 hz2 rfl (by decide) _ 0 [] rfl hmade x len cap (zs.map (Value.int .i64)) rfl ?c1 ?c2 ?c3 ?c4 ?c5 ?c6 ?_)
    case c1 => simp [hz]
    case c2 => exact src_alloc hz hc
    case c3 => exact ints_oneCell _ _
    case c4 => unfold maxLen; omega
    case c5 => omega
    case c6 => simp
    intro v' w1 hown hg _
    go_wp2
    go_ret
    obtain ⟨a', c', rfl⟩ := owns_shape hown
    have hown' : w1.ownsRow w.heap.size 3 1 (.slice a' len c') len (zs.map (Value.int .i64)) := by simpa using hown
    exact ⟨a', c', by simp, hown', ((Below.refl _ w).alloc (Nat.le_refl _) _).grown hg (by simp) (by intro k hk; simp [Value.ownBlock] at hk; omega)⟩

theorem copyBytes_any (a : Option Addr) (len cap : Nat) (zs : List Int) (w : World) (h : Arg .u8 w a len cap zs) (hl : len ≤ 100000) :
    Calls Try.prog 9 #[.slice a len cap] w fun e w' => ∃ a' c', e = .returned (.slice a' len c') ∧ w'.ownsRow w.heap.size 5 1 (.slice a' len c') len (zs.map (Value.int .u8)) ∧ Below w.heap.size w w' := by
  obtain ⟨i0, hi, hz0, hz1, hz2⟩ := info_parts info5
  have hmade := World.ownsRow_made (base := w.heap.size) (e := 5) (size := 1) w #[] 0 (Nat.le_refl _) (by unfold maxLen; omega) rfl
  rcases h with ⟨rfl, rfl, rfl, rfl⟩ | ⟨x, rfl, hz, hc⟩
  · go_enter Try.func9, Try.ntmps9
    go_wp2_with (at_builtin; refine wpList_append_own_none rfl _ _ 23 rfl w.heap.size 5 i0 1 Try.underlying23 hi _ 0 [] rfl hmade rfl ?_)
    go_ret
    exact ⟨_, _, rfl, hmade, (Below.refl _ w).alloc (Nat.le_refl _) _⟩
  · go_enter Try.func9, Try.ntmps9
    go_wp2_with (at_builtin; refine wpList_append_own _ rfl _ _ 23 rfl w.heap.size 5 i0 (.int .u8 0) 1 1 Try.underlying23 hi hz0 hz1 hz2 rfl (by decide) _ 0 [] rfl hmade x len cap (zs.map (Value.int .u8)) rfl ?c1 ?c2 ?c3 ?c4 ?c5 ?c6 ?_)
    case c1 => simp [hz]
    case c2 => exact src_alloc hz hc
    case c3 => exact ints_oneCell _ _
    case c4 => unfold maxLen; omega
    case c5 => omega
    case c6 => simp
    intro v' w1 hown hg _
    go_wp2
    go_ret
    obtain ⟨a', c', rfl⟩ := owns_shape hown
    have hown' : w1.ownsRow w.heap.size 5 1 (.slice a' len c') len (zs.map (Value.int .u8)) := by simpa using hown
    exact ⟨a', c', by simp, hown', ((Below.refl _ w).alloc (Nat.le_refl _) _).grown hg (by simp) (by intro k hk; simp [Value.ownBlock] at hk; omega)⟩

theorem heap_set2 {w : World} {p : Nat} {a b u : Value} {t : TypeId} (h : w.heap[p]? = some (.cells #[a, b] t (0, 0))) : (w.setCell ⟨p, 1, none⟩ u).heap[p]? = some (.cells #[a, u] t (0, 0)) := by
  simp [World.setCell, Array.getElem?_modify, h]

theorem cells2 {w : World} {p : Nat} {a b : Value} {t : TypeId} (h : w.heap[p]? = some (.cells #[a, b] t (0, 0))) :
    w.cell? ⟨p, 0, none⟩ = some a ∧ w.cell? ⟨p, 1, none⟩ = some b ∧ w.frozen? ⟨p, 1, none⟩ = false := by
  simp [World.cell?, World.frozen?, h]

theorem refLeaves_bad (p : Nat) (w : World) (h : Int) (hh : h < 0 ∨ 6 < h) :
    Calls Try.prog 13 #[.pointer (some ⟨p, 0, none⟩), .int .i64 h] w fun e w' => e = .returned (.tuple #[.int .i64 0, .int .i64 (-1)]) ∧ w' = w := by
  have hc : h < 0 ∨ (0 ≤ h ∧ 6 < h) := by omega
  clear hh
  rcases hc with h1 | ⟨h0, h1⟩
  all_goals
    go_enter Try.func13, Try.ntmps13
    go_wp2
    go_ret2
    exact ⟨rfl, rfl⟩

theorem drew_set (w : World) (n m : Nat) (a : Addr) (u : Value) : ((w.drewN n).setCell a u).drewN m = (w.setCell a u).drewN (n + m) := by
  rw [← World.drewN_drewN]
  rfl

theorem leafOf_pos (zs : List Int) (d h : Nat) (P : Int) (hP : P = 2 ^ h) (hz : 0 < zs.getD d 0) : zs.getD d 0 % P = leafOf zs d h := by
  unfold leafOf; rw [hP, Int.max_eq_left (by omega)]

theorem leafOf_zero (zs : List Int) (d h : Nat) (hz : zs.getD d 0 ≤ 0) : 0 = leafOf zs d h := by
  unfold leafOf; rw [Int.max_eq_right hz]; simp

set_option maxHeartbeats 1000000 in
theorem refLeaves_draw {w : World} {p d : Nat} {zs : List Int} {a : Option Addr} {len cap : Nat} (hb : w.heap[p]? = some (.cells #[.slice a len cap, .int .i64 d] 34 (0, 0))) (A : Arg .i64 w a len cap zs) (hl : len ≤ 100000) (hd : d ≤ 1000000) (h : Nat) (hh : h ≤ 6) :
    Calls Try.prog 13 #[.pointer (some ⟨p, 0, none⟩), .int .i64 h] w fun e w' => e = .returned (.tuple #[.int .i64 (leafOf zs d h), .int .i64 d]) ∧ ∃ m, w' = (w.setCell ⟨p, 1, none⟩ (.int .i64 ((d : Int) + 1))).drewN m := by
  obtain ⟨c0, c1, f1⟩ := cells2 hb
  obtain ⟨P, hP, hP1, hP2, HP⟩ := pow_ex h hh
  have hli : (len : Int) ≤ 100000 := by omega
  have hAl := A.len
  by_cases hdl : d < len
  · have hdi : (d : Int) < len := by omega
    obtain ⟨x, hx, hc⟩ := A.at d hdl
    subst hx
    by_cases hz : 0 < zs.getD d 0
    · have HZ : Hid (zs.getD d 0 % P = leafOf zs d h) := leafOf_pos zs d h P HP.out hz
      generalize zs.getD d 0 = z at hc hz HZ
      clear hAl A hb
      go_enter Try.func13, Try.ntmps13
      go_wp2_with fail
      go_quiet (fail)
      go_wp2_with fail
      go_quiet (fail)
      go_wp2_with fail
      go_quiet (fail)
      go_wp2
      go_ret2
      exact ⟨ret_two HZ.out (by omega), _, drew_set _ _ _ _ _⟩
    · have HZ : Hid (0 = leafOf zs d h) := leafOf_zero zs d h (by omega)
      generalize zs.getD d 0 = z at hc hz
      have hz' : z ≤ 0 := by omega
      have hzd : decide (0 < z) = false := by simp; omega
      clear hAl A hb hz
      go_enter Try.func13, Try.ntmps13
      go_wp2_with fail
      go_quiet (fail)
      go_wp2_with fail
      go_quiet (fail)
      go_wp2
      go_ret2
      exact ⟨ret_two HZ.out (by omega), _, drew_set _ _ _ _ _⟩
  · have hdi : (len : Int) ≤ (d : Int) := by omega
    have hdd : decide (d < len) = false := by simp; omega
    have HZ : Hid (0 = leafOf zs d h) := leafOf_zero zs d h (by rw [List.getD_eq_getElem?_getD, List.getElem?_eq_none (by omega)]; exact Int.le_refl _)
    clear hAl A hb
    go_enter Try.func13, Try.ntmps13
    go_wp2_with fail
    go_quiet (fail)
    go_wp2_with fail
    go_quiet (fail)
    go_wp2
    go_ret2
    exact ⟨ret_two HZ.out (by omega), _, drew_set _ _ _ _ _⟩

theorem refPads_bad (p : Nat) (w : World) (n : Int) (hh : n < 1 ∨ 1048576 < n) :
    Calls Try.prog 18 #[.pointer (some ⟨p, 0, none⟩), .int .i64 n] w fun e w' => e = .returned (.slice none 0 0) ∧ w' = w := by
  have hc : n < 1 ∨ (1 ≤ n ∧ 1048576 < n) := by omega
  clear hh
  rcases hc with h1 | ⟨h0, h1⟩
  all_goals
    go_enter Try.func18, Try.ntmps18
    go_wp2
    go_ret
    exact ⟨rfl, rfl⟩

/-- The row behind k rounds: the first k bytes drawn, zeros behind. -/
def fillOf (zs : List Int) (d n k : Nat) : List Value := (padsOf zs d k).map (Value.int .u8) ++ List.replicate (n - k) (Value.int .u8 0)

theorem fill_zero (zs : List Int) (d n : Nat) : fillOf zs d n 0 = (madeCells #[Value.int .u8 0] n).toList := by
  rw [toList_madeCells_one]; simp [fillOf, padsOf]

theorem fill_all (zs : List Int) (d n : Nat) : fillOf zs d n n = (padsOf zs d n).map (Value.int .u8) := by simp [fillOf]

theorem padsOf_succ (zs : List Int) (d k : Nat) : padsOf zs d (k + 1) = padsOf zs d k ++ [zs.getD (d + k) 0] := by
  simp [padsOf, List.range_succ]

theorem fill_set (zs : List Int) (d n k : Nat) (hk : k < n) : (fillOf zs d n k).set k (Value.int .u8 (zs.getD (d + k) 0)) = fillOf zs d n (k + 1) := by
  unfold fillOf
  rw [padsOf_succ, show n - k = (n - (k + 1)) + 1 by omega, List.replicate_succ, List.map_append, List.append_assoc]
  rw [List.set_append_right _ _ (by simp [padsOf_length])]
  simp [padsOf_length]

theorem fill_skip (zs : List Int) (d n k : Nat) (hk : k < n) (hz : zs.length ≤ d + k) : fillOf zs d n k = fillOf zs d n (k + 1) := by
  unfold fillOf
  rw [padsOf_succ, show n - k = (n - (k + 1)) + 1 by omega, List.replicate_succ, List.map_append, List.append_assoc]
  simp [List.getElem?_eq_none hz]

theorem fill_length (zs : List Int) (d n k : Nat) (hk : k ≤ n) : (fillOf zs d n k).length = n := by
  simp [fillOf, padsOf_length]; omega

theorem heap_setAt {w : World} {g k : Nat} {xs : List Value} {t : TypeId} {u : Value} (h : w.heap[g]? = some (.cells xs.toArray t (0, 0))) : (w.setCell ⟨g, k, none⟩ u).heap[g]? = some (.cells (xs.set k u).toArray t (0, 0)) := by
  simp [World.setCell, Array.getElem?_modify, h]

theorem cell_in {w : World} {g k : Nat} {xs : List Value} {t : TypeId} (h : w.heap[g]? = some (.cells xs.toArray t (0, 0))) (hk : k < xs.length) : (∃ u, w.cell? ⟨g, k, none⟩ = some u) ∧ w.frozen? ⟨g, k, none⟩ = false := by
  simp [World.cell?, World.frozen?, h, hk]

set_option maxHeartbeats 1000000 in
theorem refPads_draw {w : World} {p d : Nat} {zs : List Int} {a : Option Addr} {len cap : Nat} (hb : w.heap[p]? = some (.cells #[.slice a len cap, .int .i64 d] 37 (0, 0))) (A : Arg .u8 w a len cap zs) (hl : len ≤ 100000) (hd : d ≤ 100000000) (n : Nat) (h1 : 1 ≤ n) (h2 : n ≤ 1048576) :
    Calls Try.prog 18 #[.pointer (some ⟨p, 0, none⟩), .int .i64 n] w fun e w' => e = .returned (.slice (some ⟨w.heap.size, 0, none⟩) n n) ∧ w'.heap[w.heap.size]? = some (.cells ((padsOf zs d n).map (Value.int .u8)).toArray 5 (0, 0)) ∧
      w'.heap[p]? = some (.cells #[.slice a len cap, .int .i64 ((d + n : Nat) : Int)] 37 (0, 0)) ∧ Chg [p] w w' := by
  obtain ⟨i0, hi0, hz0, hz1, hz2⟩ := info_parts info5
  have hn1 : (1 : Int) ≤ n := by omega
  have hn2 : (n : Int) ≤ 1048576 := by omega
  have hli : (len : Int) ≤ 100000 := by omega
  have hps : p < w.heap.size := lt_of_block hb
  go_enter Try.func18, Try.ntmps18
  go_wp2_with (at_make; refine wpList_make_full _ rfl _ _ 23 rfl w.heap.size 5 i0 (.int .u8 0) 1 Try.underlying23 hi0 hz0 hz1 .i64 .i64 n n n rfl rfl rfl rfl ?c1 ?c2 ?c3 ?_)
  case c1 => rw [hz2]; omega
  case c2 => unfold maxLen; omega
  case c3 => omega
  intro w1 hown hg
  have G1 := (row_whole hown).1
  have C1 : Chg [] w w1 := grown_chg hg
  clear hown hg
  go_wp2_with fail
  go_loopw [6] (fun i wr => ∃ k : Nat, k ≤ n ∧ i = .int .i64 k ∧ wr.heap[w.heap.size]? = some (.cells (fillOf zs d n k).toArray 5 (0, 0)) ∧ Chg [] w wr) (fun i _ => n - (intOf i).toNat)
  case atStart => exact ⟨0, by omega, rfl, by rw [fill_zero]; simpa using G1, C1⟩
  case round =>
    obtain ⟨k, hk, rfl, G, C⟩ := hrel
    clear G1 C1
    have hbr := C.heap hb (by simp)
    obtain ⟨c0, c1, f1⟩ := cells2 hbr
    by_cases hkn : k < n
    · have hki : (k : Int) < n := by omega
      by_cases hdk : d + k < len
      · have hdi : (d : Int) + k < len := by omega
        obtain ⟨x, hx, hc⟩ := (A.below C.below).at (d + k) hdk
        subst hx
        obtain ⟨⟨u0, cu⟩, fu⟩ := cell_in G (show k < (fillOf zs d n k).length by rw [fill_length zs d n k hk]; exact hkn)
        have G' := heap_setAt (k := k) (u := .int .u8 (zs.getD (d + k) 0)) G
        rw [fill_set zs d n k hkn] at G'
        have C' := C.setCell ⟨w.heap.size, k, none⟩ (.int .u8 (zs.getD (d + k) 0)) (.inr (Nat.le_refl _))
        have HG : Hid _ := G'
        have HC : Hid _ := C'
        generalize zs.getD (d + k) 0 = z at hc HG HC
        clear G G' C C' hbr
        go_wp2_with fail
        go_quiet (fail)
        go_wp2_with fail
        go_region
        all_goals go_wp2
        all_goals go_roundw
        case rel => exact ⟨k + 1, by omega, by go_num, HG.out, HC.out.drewN (nq + 1)⟩
        case measure => simp [intOf]; omega
      · have hdi : (len : Int) ≤ (d : Int) + k := by omega
        have hal := A.len
        rw [fill_skip zs d n k hkn (by omega)] at G
        clear hal hbr
        go_wp2_with fail
        go_quiet (fail)
        go_wp2
        go_roundw
        case rel => exact ⟨k + 1, by omega, by go_num, G, C.drewN nq⟩
        case measure => simp [intOf]; omega
    · have hki : (n : Int) ≤ (k : Int) := by omega
      have hkk : k = n := by omega
      subst hkk
      rw [fill_all] at G
      have hbs := heap_set2 (u := .int .i64 ((d : Int) + k)) hbr
      have C' := C.mono (m := [p]) (by simp)
      have C2 := C'.setCell ⟨p, 1, none⟩ (.int .i64 ((d : Int) + k)) (.inl (by simp))
      have HB : Hid _ := hbs
      have HC : Hid _ := C2
      clear hbr hbs C C' C2
      go_wp2
      go_ret
      refine ⟨rfl, ?_, ?_, HC.out⟩
      · exact (Below.heap_setCell _ _ _ _ (by simp; omega)).trans G
      · have := HB.out
        rw [show ((d + k : Nat) : Int) = (d : Int) + k by omega]
        exact this
end Go.Proofs.Ytfandaicnolkeaa.tp
