/-
  Proved: for every number n, every two lists of operations and every list of bools the law CellsSure returns true and leaves its arguments as they were; no condition.
-/
import Derived.Test.YtjmdjadnllakpaaSureS
import Derived.Deep.OwnRows
import Derived.Below
namespace Go.Proofs.Ytjmdjadnllakpaa.cellsSure
open Go.ChangeShapes Go.WideShapes Go.ChangeAt Go.RowKit Go.Proofs.Ytjmdjadnllakpaa.hp Go.Proofs.Ytjmdjadnllakpaa.md Go.Proofs.Ytjmdjadnllakpaa.st Go.Proofs.Ytjmdjadnllakpaa.su
set_option linter.unusedVariables false

set_option maxRecDepth 100000 in
set_option maxHeartbeats 2000000 in
theorem early (w : World) (a0 : Int) (a1 : Option Addr) (len1 cap1 : Nat) (a2 : Option Addr) (len2 cap2 : Nat) (a3 : Option Addr) (len3 cap3 : Nat) (hh : a0 < 1 ∨ 30 < a0) :
    Calls Try.prog 4 #[.int .i64 a0, .slice a1 len1 cap1, .slice a2 len2 cap2, .slice a3 len3 cap3] w fun e w' => e = .returned (.bool true) ∧ Below w.heap.size w w' := by
  have hc : (a0 < 1) ∨ (1 ≤ a0 ∧ 30 < a0 ∧ 65536 < a0) ∨ (1 ≤ a0 ∧ 30 < a0 ∧ a0 ≤ 65536) := by omega
  clear hh
  rcases hc with h1 | ⟨h1, h2, h3⟩ | ⟨h1, h2, h3⟩
  · go_enter Try.func4, Try.ntmps4
    go_wp2_with fail
    refine (first_any _).mono ?_
    rintro e w1 ⟨rfl, k1⟩
    go_wp2_with fail
    refine (new_out a0 4 (by omega)).mono ?_
    rintro e w2 ⟨rfl, rfl⟩
    go_wp2_with fail
    refine (first_any _).mono ?_
    rintro e w3 ⟨rfl, k3⟩
    go_wp2
    go_ret
    exact ⟨rfl, (k1.then k3).below⟩
  · go_enter Try.func4, Try.ntmps4
    go_wp2_with fail
    refine (first_any _).mono ?_
    rintro e w1 ⟨rfl, k1⟩
    go_wp2_with fail
    refine (new_out a0 4 (by omega)).mono ?_
    rintro e w2 ⟨rfl, rfl⟩
    go_wp2_with fail
    refine (first_any _).mono ?_
    rintro e w3 ⟨rfl, k3⟩
    go_wp2
    go_ret
    exact ⟨rfl, (k1.then k3).below⟩
  · obtain ⟨n, rfl⟩ := Int.eq_ofNat_of_zero_le (show 0 ≤ a0 by omega)
    go_enter Try.func4, Try.ntmps4
    go_wp2_with fail
    refine (first_any _).mono ?_
    rintro e w1 ⟨rfl, k1⟩
    go_wp2_with fail
    refine (new_in n 4 (by omega) (by omega) (by omega) (by omega)).mono ?_
    rintro e w2 ⟨p, rfl, s2, k2⟩
    go_wp2_with fail
    refine (first_any _).mono ?_
    rintro e w3 ⟨rfl, k3⟩
    go_wp2
    go_ret
    exact ⟨rfl, ((k1.then k2).then k3).below⟩

theorem made_row {w : World} {g n : Nat} (h : w.heap[g]? = some (.cells (madeCells #[Value.slice none 0 0] n) 32 (0, 0))) : w.heap[g]? = some (.cells (List.replicate n (Value.slice none 0 0)).toArray 32 (0, 0)) := by
  rw [h, ← toList_madeCells_one]

theorem made_two (w : World) (n : Nat) : (((w.alloc (.cells (madeCells #[Value.slice none 0 0] n) 32)).alloc (.cells (madeCells #[Value.slice none 0 0] n) 32)).drew).heap[w.heap.size]? = some (.cells (List.replicate n (Value.slice none 0 0)).toArray 32 (0, 0)) ∧
    (((w.alloc (.cells (madeCells #[Value.slice none 0 0] n) 32)).alloc (.cells (madeCells #[Value.slice none 0 0] n) 32)).drew).heap[w.heap.size + 1]? = some (.cells (List.replicate n (Value.slice none 0 0)).toArray 32 (0, 0)) ∧
    Chg no w ((w.alloc (.cells (madeCells #[Value.slice none 0 0] n) 32)).alloc (.cells (madeCells #[Value.slice none 0 0] n) 32)).drew := by
  refine ⟨made_row ?_, made_row ?_, (((Chg.refl no w).alloc _).alloc _).drew⟩
  · show ((w.alloc (.cells (madeCells #[Value.slice none 0 0] n) 32)).alloc (.cells (madeCells #[Value.slice none 0 0] n) 32)).heap[w.heap.size]? = _
    rw [Below.heap_alloc _ _ _ (by simp)]
    exact heap_alloc_new _ _
  · show ((w.alloc (.cells (madeCells #[Value.slice none 0 0] n) 32)).alloc (.cells (madeCells #[Value.slice none 0 0] n) 32)).heap[w.heap.size + 1]? = _
    have := heap_alloc_new (w.alloc (.cells (madeCells #[Value.slice none 0 0] n) 32)) (.cells (madeCells #[Value.slice none 0 0] n) 32)
    have e : (w.alloc (.cells (madeCells #[Value.slice none 0 0] n) 32)).heap.size = w.heap.size + 1 := by simp
    rw [e] at this
    exact this

theorem first_round {wc wr : World} {gw gn n k : Nat} {WA : List Cell} (hne : ¬ gw = gn) (h1 : gw < wc.heap.size) (h2 : gn < wc.heap.size) (l1 : WA.length = n) (hkn : k < n) (b1 : wr.heap[gw]? = some (.cells (WA.map (·.1)).toArray 32 (0, 0)))
    (b2 : wr.heap[gn]? = some (.cells ((List.replicate n dC).map (·.1)).toArray 32 (0, 0)))
    (hz : ∀ j, j < k → (WA.getD j dC).2 = [0, 0, 0, 0] ∧ Lies (fun b => wc.heap.size ≤ b) wr (WA.getD j dC).1 ((WA.getD j dC).2.map (Value.int .u8))) (C : Chg (fun b => b = gw ∨ b = gn) wc wr) :
    ∃ WA : List Cell, WA.length = n ∧ (((wr.setCell ⟨gw, k, none⟩ (.slice (some ⟨wr.heap.size, 0, none⟩) 4 4)).setCell ⟨gn, k, none⟩ (.slice none 0 0)).alloc (.cells #[.int .u8 0, .int .u8 0, .int .u8 0, .int .u8 0] 5)).heap[gw]? = some (.cells (WA.map (·.1)).toArray 32 (0, 0)) ∧
            (((wr.setCell ⟨gw, k, none⟩ (.slice (some ⟨wr.heap.size, 0, none⟩) 4 4)).setCell ⟨gn, k, none⟩ (.slice none 0 0)).alloc (.cells #[.int .u8 0, .int .u8 0, .int .u8 0, .int .u8 0] 5)).heap[gn]? = some (.cells ((List.replicate n dC).map (·.1)).toArray 32 (0, 0)) ∧
            (∀ j, j < k + 1 → (WA.getD j dC).2 = [0, 0, 0, 0] ∧ Lies (fun b => wc.heap.size ≤ b) (((wr.setCell ⟨gw, k, none⟩ (.slice (some ⟨wr.heap.size, 0, none⟩) 4 4)).setCell ⟨gn, k, none⟩ (.slice none 0 0)).alloc (.cells #[.int .u8 0, .int .u8 0, .int .u8 0, .int .u8 0] 5)) (WA.getD j dC).1 ((WA.getD j dC).2.map (Value.int .u8))) ∧
            Chg (fun b => b = gw ∨ b = gn) wc (((wr.setCell ⟨gw, k, none⟩ (.slice (some ⟨wr.heap.size, 0, none⟩) 4 4)).setCell ⟨gn, k, none⟩ (.slice none 0 0)).alloc (.cells #[.int .u8 0, .int .u8 0, .int .u8 0, .int .u8 0] 5)) := by
  have g1 := lt_of_block b1
  have g2 := lt_of_block b2
  have hsz := C.size
  have c1 : Chg (fun b => b = gw ∨ b = gn) wr (((wr.setCell ⟨gw, k, none⟩ (.slice (some ⟨wr.heap.size, 0, none⟩) 4 4)).setCell ⟨gn, k, none⟩ (.slice none 0 0)).alloc (.cells #[.int .u8 0, .int .u8 0, .int .u8 0, .int .u8 0] 5)) :=
    (((Chg.refl (fun b => b = gw ∨ b = gn) wr).setCell _ _ (.inl (.inl rfl))).setCell _ _ (.inl (.inr rfl))).alloc _
  refine ⟨WA.set k (.slice (some ⟨wr.heap.size, 0, none⟩) 4 4, [0, 0, 0, 0]), by simpa using l1, ?_, ?_, ?_, C.then c1⟩
  · rw [Below.heap_alloc _ _ _ (by simpa using g1), Below.heap_setCell _ _ _ _ (by simpa using hne), row_set b1, List.map_set]
  · rw [Below.heap_alloc _ _ _ (by simpa using g2), row_set (w := wr.setCell ⟨gw, k, none⟩ (.slice (some ⟨wr.heap.size, 0, none⟩) 4 4)) (by rw [Below.heap_setCell _ _ _ _ (by simpa using fun e => hne e.symm)]; exact b2)]
    congr 3
    apply List.ext_getElem
    · simp
    · intro j h1 h2
      simp [List.getElem_set]
      intro _
      rfl
  · intro j hj
    rw [getD_set WA k j _ (by omega)]
    by_cases he : j = k
    · rw [if_pos he]
      refine ⟨rfl, ?_⟩
      have hb : (((wr.setCell ⟨gw, k, none⟩ (.slice (some ⟨wr.heap.size, 0, none⟩) 4 4)).setCell ⟨gn, k, none⟩ (.slice none 0 0)).alloc (.cells #[.int .u8 0, .int .u8 0, .int .u8 0, .int .u8 0] 5)).heap[wr.heap.size]? = some (.cells #[.int .u8 0, .int .u8 0, .int .u8 0, .int .u8 0] 5 (0, 0)) := by
        have := heap_alloc_new ((wr.setCell ⟨gw, k, none⟩ (.slice (some ⟨wr.heap.size, 0, none⟩) 4 4)).setCell ⟨gn, k, none⟩ (.slice none 0 0)) (.cells #[.int .u8 0, .int .u8 0, .int .u8 0, .int .u8 0] 5)
        simpa using this
      exact (lies_block (zs := [.int .u8 0, .int .u8 0, .int .u8 0, .int .u8 0]) hb 4).mono (fun b hb => by subst hb; omega)
    · rw [if_neg he]
      obtain ⟨e1, e2⟩ := hz j (by omega)
      exact ⟨e1, e2.chg c1 (fun b hb e => by omega)⟩

theorem start_state {w w4 wc wr : World} {p gw gn k lo hi : Nat} {WA : List Cell} (hne : gw ≠ gn) (hgw : w4.heap.size ≤ gw) (hgn : w4.heap.size ≤ gn) (h1 : gw < wc.heap.size) (h2 : gn < wc.heap.size) (hlo : w.heap.size ≤ lo) (hhi : hi ≤ w4.heap.size)
    (sc : St wc p (fun j => lo ≤ j ∧ j < hi) (Mod.new k 4)) (Kc : Chg no w wc) (l1 : WA.length = k) (b1 : wr.heap[gw]? = some (.cells (WA.map (·.1)).toArray 32 (0, 0)))
    (b2 : wr.heap[gn]? = some (.cells ((List.replicate k dC).map (·.1)).toArray 32 (0, 0)))
    (hz : ∀ j, j < k → (WA.getD j dC).2 = [0, 0, 0, 0] ∧ Lies (fun b => wc.heap.size ≤ b) wr (WA.getD j dC).1 ((WA.getD j dC).2.map (Value.int .u8))) (C : Chg (fun b => b = gw ∨ b = gn) wc wr) (h4 : ∀ j : Nat, 0 ≤ j → w.heap.size ≤ w4.heap.size) :
    ∃ R F m WA NO, S w p gw gn R k 0 F m WA NO wr ∧ (∀ j, Old w j → R j) ∧ NO = List.replicate k dC ∧ m.W = [] ∧ ∀ i, i < k → ((kept m all).getD i dC).2 = (WA.getD i dC).2 := by
  have h4' := h4 0 (Nat.zero_le _)
  have zc := C.size
  refine ⟨fun j => j < wr.heap.size ∧ (j < w.heap.size ∨ wc.heap.size ≤ j), _, _, WA, List.replicate k dC, ⟨sc.chg C (fun j hj e => by omega), ?_, b1, b2, l1, by simp, ?_, ?_, ?_, ?_, ⟨hne, by omega, by omega⟩, ?_⟩, ?_, rfl, rfl, ?_⟩
  · exact ⟨rfl, rfl, rfl, rfl, by simp [Mod.new], rfl⟩
  · intro c hc
    obtain ⟨j, hj, rfl⟩ := List.getElem_of_mem hc
    obtain ⟨e1, e2⟩ := hz j (by omega)
    rw [List.getD_eq_getElem?_getD, List.getElem?_eq_getElem hj] at e1 e2
    simp only [Option.getD_some] at e1 e2
    refine ⟨by rw [e1]; rfl, ?_⟩
    rcases e2 with e2 | ⟨x, c, f1, f2, f3⟩
    · exact .inl e2
    · refine .inr ⟨x, c, f1, fun hx => ⟨?_, .inr (f2 hx)⟩, f3⟩
      rw [e1] at f3
      have := f3 0 (.int .u8 0) rfl
      have := World.block_lt_of_cell? _ _ this
      rwa [add_block] at this
  · intro c hc
    simp at hc
    exact .inl hc.2
  · intro j hj
    exact ⟨fun e => by omega, by omega, by omega, by omega⟩
  · intro j hj
    exact ⟨hj.1, by omega, by omega⟩
  · exact Kc.trans C (fun j hj => .inr (by omega))
  · intro j hj
    have : j < w.heap.size := hj
    exact ⟨by omega, .inl this⟩
  · intro i hi
    rw [(hz i hi).1]
    show ((List.replicate k ((Value.slice none 0 0, List.replicate 4 0) : Cell)).getD i dC).2 = _
    rw [List.getD_eq_getElem?_getD, List.getElem?_replicate, if_pos hi]
    rfl

set_option maxRecDepth 100000 in
set_option maxHeartbeats 8000000 in
theorem late (w : World) (n : Nat) (a1 : Option Addr) (len1 cap1 : Nat) (O1 : Nat → OpA) (a2 : Option Addr) (len2 cap2 : Nat) (O2 : Nat → OpA) (a3 : Option Addr) (len3 cap3 : Nat) (bs : List Bool)
    (A1 : OpsAt w a1 len1 O1) (A2 : OpsAt w a2 len2 O2) (A3 : Lies (Old w) w (.slice a3 len3 cap3) (bs.map Value.bool)) (h1 : 1 ≤ n) (h2 : n ≤ 30) :
    Calls Try.prog 4 #[.int .i64 n, .slice a1 len1 cap1, .slice a2 len2 cap2, .slice a3 len3 cap3] w fun e w' => e = .returned (.bool true) ∧ Below w.heap.size w w' := by
  have i1 : (1 : Int) ≤ n := by omega
  have i2 : (n : Int) ≤ 30 := by omega
  have H1 : Hid (OpsAt w a1 len1 O1) := A1
  have H2 : Hid (OpsAt w a2 len2 O2) := A2
  have H3 : Hid (Lies (Old w) w (.slice a3 len3 cap3) (bs.map Value.bool)) := A3
  have HB3 : Hid (bs.length = len3 ∧ ∀ k, k < len3 → ∃ x, a3 = some x ∧ Old w x.block ∧ w.cell? (x.add k) = some (.bool (bs.getD k false))) := by
    obtain ⟨a, c, hv, hh⟩ := lies_bool A3
    simp at hv
    obtain ⟨rfl, rfl, rfl⟩ := hv
    exact ⟨rfl, hh⟩
  have FW1 : ∀ w', Chg no w w' → Calls Try.prog 9 #[.slice a1 len1 cap1] w' (FewRes len1 O1 w') := fun w' c => few_any (ops_later H1.out c) cap1
  have FW2 : ∀ w', Chg no w w' → Calls Try.prog 9 #[.slice a2 len2 cap2] w' (FewRes len2 O2 w') := fun w' c => few_any (ops_later H2.out c) cap2
  clear A1 A2 A3
  go_enter Try.func4, Try.ntmps4
  go_wp2_with fail
  refine (first_any _).mono ?_
  rintro e w1 ⟨rfl, k1⟩
  go_wp2_with fail
  refine (new_in n 4 (by omega) (by omega) (by omega) (by omega)).mono ?_
  rintro e w2 ⟨p, rfl, s2, k2⟩
  have K2 := k1.then k2
  go_wp2_with fail
  refine (FW1 _ K2).mono ?_
  rintro e w3 ⟨b3, rfl, hb3, k3⟩
  have K3 := K2.then k3
  rcases b3 with _ | _
  · clear hb3
    go_wp2_with fail
    refine (first_any _).mono ?_
    rintro e w4 ⟨rfl, k4⟩
    go_wp2
    go_ret
    exact ⟨rfl, (K3.then k4).below⟩
  have HF1 : Hid (FewIs len1 O1) := hb3 rfl
  go_wp2_with fail
  refine (FW2 _ K3).mono ?_
  rintro e w4 ⟨b4, rfl, hb4, k4⟩
  have K4 := K3.then k4
  rcases b4 with _ | _
  · clear hb4 hb3
    go_wp2_with fail
    refine (first_any _).mono ?_
    rintro e w5 ⟨rfl, k5⟩
    go_wp2
    go_ret
    exact ⟨rfl, (K4.then k5).below⟩
  have HF2 : Hid (FewIs len2 O2) := hb4 rfl
  clear hb3 hb4 FW1 FW2
  by_cases h3 : 300 < len3
  · have h3i : (300 : Int) < len3 := by omega
    go_wp2_with fail
    refine (first_any _).mono ?_
    rintro e w5 ⟨rfl, k5⟩
    go_wp2
    go_ret
    exact ⟨rfl, (K4.then k5).below⟩
  have h3i : (len3 : Int) ≤ 300 := by omega
  have hmk := run_make_row' (P := Try.prog) 46 32 (.slice none 0 0) 24 Try.underlying46 info32 rfl .i64 .i64 n (by omega) (by omega)
  have z1 := k1.size
  have z2 := k2.size
  have z4 := (k3.then k4).size
  have s4 := (s2.same k3).same k4
  clear s2 k1 k2 k3 k4 K2 K3
  go_upto_region 6 with fail
  go_cut [11, 12] from 58 to 61 (fun u v wc => ∃ gw gn, u = .slice (some ⟨gw, 0, none⟩) n n ∧ v = .slice (some ⟨gn, 0, none⟩) n n ∧ gw ≠ gn ∧ w4.heap.size ≤ gw ∧ w4.heap.size ≤ gn ∧ wc.heap[gw]? = some (.cells (List.replicate n (Value.slice none 0 0)).toArray 32 (0, 0)) ∧ wc.heap[gn]? = some (.cells (List.replicate n (Value.slice none 0 0)).toArray 32 (0, 0)) ∧ Chg no w4 wc)
  case first =>
    go_region
    all_goals (go_wp2; go_meet; case rel => first | exact ⟨_, _, rfl, rfl, by omega, by omega, by omega, (made_two w4 n).1, (made_two w4 n).2.1, (made_two w4 n).2.2⟩ | exact ⟨_, _, rfl, rfl, by omega, by omega, by omega, (made_two w4 n).2.1, (made_two w4 n).1, (made_two w4 n).2.2⟩)
  case rest =>
    obtain ⟨gw, gn, rfl, rfl, hne, hgw, hgn, bw, bn, kc⟩ := hcut
    clear hmk
    have sc := s4.same kc
    have Kc := K4.then kc
    have zc := kc.size
    have zk := K4.size
    have hgwl := lt_of_block bw
    have hgnl := lt_of_block bn
    have HNE : Hid (gw ≠ gn) := hne
    have hne1 : ¬ gw = gn := hne
    have hne2 : ¬ gn = gw := fun e => hne e.symm
    have S0 : ∃ WA : List Cell, WA.length = n ∧ wc.heap[gw]? = some (.cells (WA.map (·.1)).toArray 32 (0, 0)) := ⟨List.replicate n dC, by simp, by rw [bw]; simp [dC]⟩
    have T0 : wc.heap[gn]? = some (.cells ((List.replicate n dC).map (·.1)).toArray 32 (0, 0)) := by rw [bn]; simp [dC]
    clear s4 K4 kc bw bn hne
    go_wp2_with fail
    go_loopw [13] (fun i wr => ∃ (k : Nat) (WA : List Cell), k ≤ n ∧ i = .int .i64 (k : Int) ∧ WA.length = n ∧ wr.heap[gw]? = some (.cells (WA.map (·.1)).toArray 32 (0, 0)) ∧ wr.heap[gn]? = some (.cells ((List.replicate n dC).map (·.1)).toArray 32 (0, 0)) ∧
      (∀ j, j < k → (WA.getD j dC).2 = [0, 0, 0, 0] ∧ Lies (fun b => wc.heap.size ≤ b) wr (WA.getD j dC).1 ((WA.getD j dC).2.map (Value.int .u8))) ∧ Chg (fun b => b = gw ∨ b = gn) wc wr) (fun i _ => n - (intOf i).toNat)
    case atStart =>
      obtain ⟨WA, l1, b1⟩ := S0
      exact ⟨0, WA, by omega, rfl, l1, b1, T0, fun j hj => by omega, Chg.refl _ _⟩
    case round =>
      clear S0 T0
      obtain ⟨k, WA, hk, rfl, l1, b1, b2, hz, C⟩ := hrel
      by_cases hkn : k < n
      · have hki : (k : Int) < n := by omega
        obtain ⟨u1, hu1⟩ : ∃ u, (WA.map (·.1))[k]? = some u := by rw [List.getElem?_eq_getElem (by simpa using (by omega : k < WA.length))]; exact ⟨_, rfl⟩
        obtain ⟨q1, q2⟩ := row_cell b1 k u1 hu1
        obtain ⟨u2, hu2⟩ : ∃ u, ((List.replicate n dC).map (·.1))[k]? = some u := by rw [List.getElem?_eq_getElem (by simpa using hkn)]; exact ⟨_, rfl⟩
        obtain ⟨q3, q4⟩ := row_cell b2 k u2 hu2
        have hgw2 : gw < wr.heap.size := lt_of_block b1
        have hgn2 : gn < wr.heap.size := lt_of_block b2
        have HS : Hid (∃ WA : List Cell, WA.length = n ∧ (((wr.setCell ⟨gw, k, none⟩ (.slice (some ⟨wr.heap.size, 0, none⟩) 4 4)).setCell ⟨gn, k, none⟩ (.slice none 0 0)).alloc (.cells #[.int .u8 0, .int .u8 0, .int .u8 0, .int .u8 0] 5)).heap[gw]? = some (.cells (WA.map (·.1)).toArray 32 (0, 0)) ∧
            (((wr.setCell ⟨gw, k, none⟩ (.slice (some ⟨wr.heap.size, 0, none⟩) 4 4)).setCell ⟨gn, k, none⟩ (.slice none 0 0)).alloc (.cells #[.int .u8 0, .int .u8 0, .int .u8 0, .int .u8 0] 5)).heap[gn]? = some (.cells ((List.replicate n dC).map (·.1)).toArray 32 (0, 0)) ∧
            (∀ j, j < k + 1 → (WA.getD j dC).2 = [0, 0, 0, 0] ∧ Lies (fun b => wc.heap.size ≤ b) (((wr.setCell ⟨gw, k, none⟩ (.slice (some ⟨wr.heap.size, 0, none⟩) 4 4)).setCell ⟨gn, k, none⟩ (.slice none 0 0)).alloc (.cells #[.int .u8 0, .int .u8 0, .int .u8 0, .int .u8 0] 5)) (WA.getD j dC).1 ((WA.getD j dC).2.map (Value.int .u8))) ∧
            Chg (fun b => b = gw ∨ b = gn) wc (((wr.setCell ⟨gw, k, none⟩ (.slice (some ⟨wr.heap.size, 0, none⟩) 4 4)).setCell ⟨gn, k, none⟩ (.slice none 0 0)).alloc (.cells #[.int .u8 0, .int .u8 0, .int .u8 0, .int .u8 0] 5))) :=
          first_round hne1 hgwl hgnl l1 hkn b1 b2 hz C
        clear b1 b2 hz C hu1 hu2 l1
        go_wp2
        go_roundw
        case rel =>
          obtain ⟨WA', m1, m2, m3, m4, m5⟩ := HS.out
          exact ⟨k + 1, WA', by omega, by go_num, m1, m2, m3, m4, m5⟩
        case measure => simp [intOf]; omega
      · obtain rfl : k = n := by omega
        have hki : (k : Int) ≤ (k : Int) := by omega
        have SS : ∃ R F m WA NO, S w p gw gn R k 0 F m WA NO wr ∧ (∀ j, Old w j → R j) ∧ NO = List.replicate k dC ∧ m.W = [] ∧ ∀ i, i < k → ((kept m all).getD i dC).2 = (WA.getD i dC).2 :=
          start_state HNE.out hgw hgn hgwl hgnl (by omega) (by omega) sc Kc l1 b1 b2 hz C (fun j hj => by omega)
        clear sc Kc b1 b2 hz C l1
        obtain ⟨R, F0, m0, WA0, NO, hS0, hR, hNO, hW0, hB0⟩ := SS
        have S1 : ∃ (F : Nat → Prop) (m : Mod) (WA : List Cell), S w p gw gn R k 0 F m WA NO wr ∧ ∀ i, i < k → ((kept m all).getD i dC).2 = (WA.getD i dC).2 := ⟨F0, m0, WA0, hS0, hB0⟩
        have HR : Hid (∀ j, Old w j → R j) := hR
        clear hS0 hB0 hR hW0
        go_wp2_with fail
        go_loopw [14] (fun i wr => ∃ (j : Nat) (F : Nat → Prop) (m : Mod) (WA : List Cell), j ≤ len1 ∧ i = .int .i64 (j : Int) ∧ S w p gw gn R k j F m WA NO wr ∧ ∀ i, i < k → ((kept m all).getD i dC).2 = (WA.getD i dC).2) (fun i _ => len1 - (intOf i).toNat)
        case atStart =>
          obtain ⟨F, m, WA, s, hb⟩ := S1
          exact ⟨0, F, m, WA, by omega, rfl, s, hb⟩
        case round =>
          clear S1
          obtain ⟨j, F, m, WA, hj, rfl, hS, hB⟩ := hrel
          by_cases hjn : j < len1
          · have hji : (j : Int) < len1 := by omega
            have hjb : j ≤ 200 := by have := HF1.out.1; omega
            obtain ⟨x, ab, cb, ak, ck, rfl, hb, hk', e0, e1, e2, e3, l2, l3⟩ := H1.out.at hS.chg j hjn
            have sD := hS.same (Chg.refl no wr).drew
            have ho : m.ops ≤ 100000000 := by have := hS.live.ops; omega
            have hkp : m.kp.length ≤ 100000000000 := by rw [hS.live.kp]; simp
            have hV := hS.live.V
            have hsz := hS.live.sz
            have hfl := hS.live.fails
            have hlv := hS.live
            obtain ⟨A, hA⟩ : ∃ A, (O1 j).addr = A := ⟨_, rfl⟩
            rw [hA] at e1
            by_cases hr : 0 ≤ A ∧ A < k
            · by_cases hL : (O1 j).zs.length = 4
              · obtain ⟨a, rfl⟩ := Int.eq_ofNat_of_zero_le hr.1
                have ha : a < k := by omega
                have hai : (a : Int) < k := by omega
                have ha0 : (0 : Int) ≤ a := by omega
                rw [hL] at e2 l2
                have HW := write_ok sD.st ho hkp hfl a (by omega) (.slice ab 4 cb) (O1 j).zs (by omega) (l2.chg (Chg.refl no wr).drew (fun _ _ h => h)) (fun b hb => ⟨fun e => by have := (hS.fr b e).2.2.2; exact absurd hb (Nat.not_lt.2 this), Nat.lt_of_lt_of_le hb (hS.chg.size)⟩)
                have HN : Hid (∀ w5 v5, St w5 p (Wid F wr.drew w5) (Mod.put m.began (a, v5, (O1 j).zs)) → Chg F wr.drew w5 → S w p gw gn R k (j + 1) (Wid F wr.drew w5) (Mod.put m.began (a, v5, (O1 j).zs)) WA NO w5) := fun w5 v5 s5 c5 =>
                  sD.op s5 c5 (fun b hb => by rcases hb with hb | hb; exact .inl hb; exact .inr hb.1) (hlv.next.put _)
                have HBB : Hid (∀ v5 i, i < k → ((kept (Mod.put m.began (a, v5, (O1 j).zs)) all).getD i dC).2 = ((WA.set a (.slice ab 4 cb, (O1 j).zs)).getD i dC).2) := by
                  intro v5 i hi
                  rw [kept_bytes _ a i v5 _ all (by rw [(began_sz m).2]; omega), bytes_setw WA a i _ _ (by rw [hS.lw]; omega), hlv.kept all, hB i hi]
                  simp [all]
                have HL2 : Hid (Lies (Old w) wr (.slice ab 4 cb) ((O1 j).zs.map (Value.int .u8))) := l2
                have HL4 : Hid ((O1 j).zs.length = 4) := hL
                have HAT : Hid (∀ w5, Chg no w w5 → w5.cell? ⟨(x.add (j * 4)).block, (x.add (j * 4)).off + 1, none⟩ = some (.int .i64 a) ∧ w5.cell? ⟨(x.add (j * 4)).block, (x.add (j * 4)).off + 2, none⟩ = some (.slice ab 4 cb) ∧ Lies (Old w) w5 (.slice ab 4 cb) ((O1 j).zs.map (Value.int .u8))) := by
                  intro w5 c5
                  obtain ⟨x', ab', cb', ak', ck', hx', hb', hk'', f0, f1, f2, f3, m2, m3⟩ := H1.out.at c5 j hjn
                  cases hx'
                  rw [hb] at hb'
                  cases hb'
                  rw [hA] at f1
                  rw [HL4.out] at f2 m2
                  exact ⟨f1, f2, m2⟩
                clear hS sD hB hlv hL l2 l3 hA hb hk' hV hsz e0 e3
                go_upto_region 14 with fail
                go_cut [92] from 80 to 92 (fun b wc => b = .bool true ∧ ∃ F m, S w p gw gn R k (j + 1) F m WA NO wc ∧ ∀ i, i < k → ((kept m all).getD i dC).2 = ((WA.set a (.slice ab 4 cb, (O1 j).zs)).getD i dC).2)
                case first =>
                  go_region_with (go_at_call 15; refine HW.mono ?_; rintro e w5 ⟨v5, rfl, s5, c5⟩)
                  all_goals (go_wp2; go_meet; case rel => exact ⟨rfl, _, _, HN.out _ _ s5 c5, HBB.out v5⟩)
                case rest =>
                  clear HW HN HBB
                  obtain ⟨rfl, F5, m5, S5, B5⟩ := hcut
                  obtain ⟨f1, f2, f3⟩ := HAT.out _ S5.chg
                  obtain ⟨q1, q2, q3, q4⟩ := S5.cellw a ha
                  obtain ⟨qx, qc, hq⟩ := lies_four q4 q3
                  rw [hq] at q1
                  have HSS : Hid (S w p gw gn R k (j + 1) F5 m5 (WA.set a (.slice ab 4 cb, (O1 j).zs)) NO (wc.setCell ⟨gw, a, none⟩ (.slice ab 4 cb))) := S5.setw a _ _ HL4.out (f3.mono HR.out)
                  have HB5 : Hid (∀ i, i < k → ((kept m5 all).getD i dC).2 = ((WA.set a (.slice ab 4 cb, (O1 j).zs)).getD i dC).2) := B5
                  clear S5 B5 f3 q3 q4 hq
                  go_wp2_with fail
                  go_region
                  all_goals go_wp2
                  all_goals go_roundw
                  case rel => exact ⟨j + 1, F5, m5, _, by omega, by go_num, HSS.out.same (Chg.refl no _).drew, HB5.out⟩
                  case measure => simp [intOf]; omega
              · have HW := write_form sD.st ho hkp hfl A (by omega) ab (O1 j).zs.length cb (by omega)
                have HN : Hid (∀ w5, St w5 p F m.began → Chg F wr.drew w5 → S w p gw gn R k (j + 1) F m.began WA NO w5) := fun w5 s5 c5 => sD.op s5 c5 (fun b hb => .inl hb) hlv.next
                have HBB : Hid (∀ i, i < k → ((kept m.began all).getD i dC).2 = (WA.getD i dC).2) := by rw [hlv.kept all]; exact hB
                clear hS sD hB hlv hL l2 l3 hA hb hk' hV hsz e0 e3
                go_wp2_with fail
                go_region_with (go_at_call 15; refine HW.mono ?_; rintro e w5 ⟨rfl, s5, c5⟩)
                all_goals go_wp2
                all_goals go_roundw
                all_goals first | exact ⟨j + 1, F, _, _, by omega, by go_num, HN.out _ s5 c5, HBB.out⟩ | (simp [intOf]; omega)
            · have HW := write_out sD.st ho hkp hfl A (by omega) ab (O1 j).zs.length cb
              have HN : Hid (∀ w5, St w5 p F m.began → Chg F wr.drew w5 → S w p gw gn R k (j + 1) F m.began WA NO w5) := fun w5 s5 c5 => sD.op s5 c5 (fun b hb => .inl hb) hlv.next
              have HBB : Hid (∀ i, i < k → ((kept m.began all).getD i dC).2 = (WA.getD i dC).2) := by rw [hlv.kept all]; exact hB
              clear hS sD hB hlv l2 l3 hA hb hk' hV hsz e0 e3 hr
              go_wp2_with fail
              go_region_with (go_at_call 15; refine HW.mono ?_; rintro e w5 ⟨rfl, s5, c5⟩)
              all_goals go_wp2
              all_goals go_roundw
              all_goals first | exact ⟨j + 1, F, _, _, by omega, by go_num, HN.out _ s5 c5, HBB.out⟩ | (simp [intOf]; omega)
          · obtain rfl : j = len1 := by omega
            have hji : (j : Int) ≤ (j : Int) := by omega
            have ho : m.ops ≤ 100000000 := by have := hS.live.ops; have := HF1.out.1; omega
            have hkp : m.kp.length ≤ 100000000000 := by rw [hS.live.kp]; simp
            have HY := sync_ok hS.st ho hkp hS.live.fails
            have HN : Hid (∀ w5, St w5 p F m.began.sync → Chg F wr w5 → S w p gw gn R k (j + 1) F m.began.sync WA NO w5 ∧ ∀ i, i < k → ((kept m.began.sync (of bs)).getD i dC).2 = want WA NO i) := by
              intro w5 s5 c5
              refine ⟨hS.op s5 c5 (fun b hb => .inl hb) hS.live.next.sync, fun i hi => ?_⟩
              have e1 : kept m.began.sync (of bs) = kept m all := hS.live.kept all
              have e2 : (NO.getD i dC).2 = [] := by rw [hNO, List.getD_eq_getElem?_getD, List.getElem?_replicate]; split <;> rfl
              rw [e1, hB i hi, want, if_pos e2]
            clear hS hB ho hkp
            go_wp2_with fail
            refine HY.mono ?_
            rintro e w5 ⟨rfl, s5, c5⟩
            have FL : Calls Try.prog 27 #[.pointer (some ⟨p, 0, none⟩)] w5 fun e w' => e = .returned (.int .i64 0) ∧ w' = w5 := flight_any s5
            obtain ⟨hS5, hB5⟩ := HN.out _ s5 c5
            have S3 : ∃ (F : Nat → Prop) (m : Mod) (NO : List Cell), m.W.length = 0 ∧ S w p gw gn R k (j + 1 + 0) F m WA NO w5 ∧ ∀ i, i < k → ((kept m (of bs)).getD i dC).2 = want WA NO i := ⟨_, _, _, rfl, hS5, hB5⟩
            clear hS5 hB5 s5 c5 HN HY hNO
            go_wp2_with fail
            refine FL.mono ?_
            rintro e w6 ⟨rfl, rfl⟩
            clear FL
            have hl1 : j ≤ 200 := HF1.out.1
            go_wp2_with fail
            go_loopw [15, 16] (fun c i wr => ∃ (q C : Nat) (F : Nat → Prop) (m : Mod) (NO : List Cell), q ≤ len2 ∧ c = .int .i64 (C : Int) ∧ i = .int .i64 (q : Int) ∧ m.W.length = C ∧ C ≤ q ∧ S w p gw gn R k (j + 1 + q) F m WA NO wr ∧ ∀ i, i < k → ((kept m (of bs)).getD i dC).2 = want WA NO i) (fun _ i _ => len2 - (intOf i).toNat)
            case atStart =>
              obtain ⟨F, m, NO, h0, s, hb⟩ := S3
              exact ⟨0, 0, F, m, NO, by omega, rfl, rfl, h0, by omega, s, hb⟩
            case round =>
              clear S3
              obtain ⟨q, C, F, m, NO, hq, rfl, rfl, hC, hCq, hS, hB⟩ := hrel
              by_cases hqn : q < len2
              · have hqi : (q : Int) < len2 := by omega
                have hqb : q ≤ 200 := by have := HF2.out.1; omega
                obtain ⟨x, ab, cb, ak, ck, rfl, hb, hk', e0, e1, e2, e3, l2, l3⟩ := H2.out.at hS.chg q hqn
                have sD := hS.same (Chg.refl no wr).drew
                have ho : m.ops ≤ 100000000 := by have := hS.live.ops; omega
                have hkp : m.kp.length ≤ 100000000000 := by rw [hS.live.kp]; simp
                have hV := hS.live.V
                have hsz := hS.live.sz
                have hfl := hS.live.fails
                have hlv := hS.live
                obtain ⟨A, hA⟩ : ∃ A, (O2 q).addr = A := ⟨_, rfl⟩
                rw [hA] at e1
                by_cases hr : 0 ≤ A ∧ A < k
                · by_cases hL : (O2 q).zs.length = 4
                  · obtain ⟨a, rfl⟩ := Int.eq_ofNat_of_zero_le hr.1
                    have ha : a < k := by omega
                    have hai : (a : Int) < k := by omega
                    have ha0 : (0 : Int) ≤ a := by omega
                    rw [hL] at e2 l2
                    have HW := write_ok sD.st ho hkp hfl a (by omega) (.slice ab 4 cb) (O2 q).zs (by omega) (l2.chg (Chg.refl no wr).drew (fun _ _ h => h)) (fun b hb => ⟨fun e => by have := (hS.fr b e).2.2.2; exact absurd hb (Nat.not_lt.2 this), Nat.lt_of_lt_of_le hb (hS.chg.size)⟩)
                    have HN : Hid (∀ w5 v5, St w5 p (Wid F wr.drew w5) (Mod.put m.began (a, v5, (O2 q).zs)) → Chg F wr.drew w5 → S w p gw gn R k (j + 1 + q + 1) (Wid F wr.drew w5) (Mod.put m.began (a, v5, (O2 q).zs)) WA NO w5) := fun w5 v5 s5 c5 =>
                      sD.op s5 c5 (fun b hb => by rcases hb with hb | hb; exact .inl hb; exact .inr hb.1) (hlv.next.put _)
                    have HBB : Hid (∀ v5, (Mod.put m.began (a, v5, (O2 q).zs)).W.length = C + 1 ∧ ∀ i, i < k → ((kept (Mod.put m.began (a, v5, (O2 q).zs)) (of bs)).getD i dC).2 = if of bs C = true ∧ i = a then (O2 q).zs else want WA NO i) := by
                      intro v5
                      refine ⟨by simp [Mod.put, hlv.len, hC], fun i hi => ?_⟩
                      rw [kept_bytes _ a i v5 _ (of bs) (by rw [(began_sz m).2]; omega), hlv.kept (of bs), hB i hi, hlv.len, hC]
                    have HL4 : Hid ((O2 q).zs.length = 4) := hL
                    have HAT : Hid (∀ w5, Chg no w w5 → w5.cell? ⟨(x.add (q * 4)).block, (x.add (q * 4)).off + 1, none⟩ = some (.int .i64 a) ∧ w5.cell? ⟨(x.add (q * 4)).block, (x.add (q * 4)).off + 2, none⟩ = some (.slice ab 4 cb) ∧ Lies (Old w) w5 (.slice ab 4 cb) ((O2 q).zs.map (Value.int .u8))) := by
                      intro w5 c5
                      obtain ⟨x', ab', cb', ak', ck', hx', hb', hk'', f0, f1, f2, f3, m2, m3⟩ := H2.out.at c5 q hqn
                      cases hx'
                      rw [hb] at hb'
                      cases hb'
                      rw [hA] at f1
                      rw [HL4.out] at f2 m2
                      exact ⟨f1, f2, m2⟩
                    clear hS sD hB hlv hL l2 l3 hA hb hk' hV hsz e0 e3 hC
                    go_upto_region 24 with fail
                    go_cut [155] from 143 to 155 (fun b wc => b = .bool true ∧ ∃ F m, S w p gw gn R k (j + 1 + q + 1) F m WA NO wc ∧ m.W.length = C + 1 ∧ ∀ i, i < k → ((kept m (of bs)).getD i dC).2 = if of bs C = true ∧ i = a then (O2 q).zs else want WA NO i)
                    case first =>
                      go_region_with (go_at_call 15; refine HW.mono ?_; rintro e w5 ⟨v5, rfl, s5, c5⟩)
                      all_goals (go_wp2; go_meet; case rel => exact ⟨rfl, _, _, HN.out _ _ s5 c5, HBB.out v5⟩)
                    case rest =>
                      clear HW HN HBB
                      obtain ⟨rfl, F5, m5, S5, W5, B5⟩ := hcut
                      obtain ⟨f1, f2, f3⟩ := HAT.out _ S5.chg
                      have hw3 : wc.heap.size = wc.heap.size := rfl
                      have HW5 : Hid (m5.W.length = C + 1) := W5
                      have SW := S5.setn a (.slice ab 4 cb) (O2 q).zs HL4.out (f3.mono HR.out)
                      have HSS : Hid (S w p gw gn R k (j + 1 + q + 1) F5 m5 WA (NO.set a (.slice ab 4 cb, (O2 q).zs)) (wc.setCell ⟨gn, a, none⟩ (.slice ab 4 cb))) := SW
                      have hwant : of bs C = true → ∀ i, i < k → ((kept m5 (of bs)).getD i dC).2 = want WA (NO.set a (.slice ab 4 cb, (O2 q).zs)) i := by
                        intro h i hi
                        rw [B5 i hi, want_setn WA NO a i _ _ (by rw [S5.ln]; omega) HL4.out]
                        simp [h]
                      have hsame : of bs C = false → ∀ i, i < k → ((kept m5 (of bs)).getD i dC).2 = want WA NO i := by
                        intro h i hi
                        rw [B5 i hi]
                        simp [h]
                      have HWA : Hid (of bs C = true → ∀ i, i < k → ((kept m5 (of bs)).getD i dC).2 = want WA (NO.set a (.slice ab 4 cb, (O2 q).zs)) i) := hwant
                      have HSA : Hid (of bs C = false → ∀ i, i < k → ((kept m5 (of bs)).getD i dC).2 = want WA NO i) := hsame
                      obtain ⟨q1, q2, _⟩ := S5.celln a ha
                      obtain ⟨hb0, hBl⟩ := HB3.out
                      have HS5 : Hid (S w p gw gn R k (j + 1 + q + 1) F5 m5 WA NO wc) := S5
                      clear SW B5 f3 hwant hsame W5
                      by_cases hkl : C < len3
                      · obtain ⟨y, rfl, hy, r0⟩ := hBl C hkl
                        have r5 := S5.chg.cell r0 id
                        have hkli : (C : Int) < len3 := by omega
                        obtain ⟨kb, hkb⟩ : ∃ b, bs.getD C false = b := ⟨_, rfl⟩
                        rw [hkb] at r5
                        have hof : of bs C = kb := hkb
                        rcases kb with _ | _
                        · have HE := HSA.out hof
                          have HE' : Hid (∀ i, i < k → ((kept m5 (of bs)).getD i dC).2 = want WA NO i) := HE
                          clear hof hkb S5 HE r0 hBl hb0
                          go_wp2
                          go_roundw
                          case rel => exact ⟨q + 1, C + 1, F5, m5, NO, by omega, by go_num, by go_num, HW5.out, by omega, HS5.out, HE'.out⟩
                          case measure => simp [intOf]; omega
                        · have HE := HWA.out hof
                          have HE' : Hid (∀ i, i < k → ((kept m5 (of bs)).getD i dC).2 = want WA (NO.set a (.slice ab 4 cb, (O2 q).zs)) i) := HE
                          obtain ⟨nx, nl, nc, hnv⟩ : ∃ x l c, (NO.getD a dC).1 = .slice x l c := by
                            rcases (S5.celln a ha).2.2 with e | ⟨e1, e2⟩
                            · rw [e]; exact ⟨_, _, _, rfl⟩
                            · obtain ⟨x, c, e⟩ := lies_four e2 e1; exact ⟨_, _, _, e⟩
                          rw [hnv] at q1
                          clear hof hkb S5 HE r0 hBl hb0 hnv
                          go_wp2_with fail
                          go_region
                          all_goals go_wp2
                          all_goals go_roundw
                          case rel => exact ⟨q + 1, C + 1, F5, m5, _, by omega, by go_num, by go_num, HW5.out, by omega, HSS.out.same (Chg.refl no _).drew, HE'.out⟩
                          case measure => simp [intOf]; omega
                      · have hkli : (len3 : Int) ≤ C := by omega
                        have hof : of bs C = false := by unfold of; rw [List.getD_eq_getElem?_getD, List.getElem?_eq_none (by omega)]; rfl
                        have HE' : Hid (∀ i, i < k → ((kept m5 (of bs)).getD i dC).2 = want WA NO i) := HSA.out hof
                        clear hof S5 hBl hb0
                        go_wp2
                        go_roundw
                        case rel => exact ⟨q + 1, C + 1, F5, m5, NO, by omega, by go_num, by go_num, HW5.out, by omega, HS5.out, HE'.out⟩
                        case measure => simp [intOf]; omega
                  · have HW := write_form sD.st ho hkp hfl A (by omega) ab (O2 q).zs.length cb (by omega)
                    have HN : Hid (∀ w5, St w5 p F m.began → Chg F wr.drew w5 → S w p gw gn R k (j + 1 + (q + 1)) F m.began WA NO w5) := fun w5 s5 c5 => sD.op s5 c5 (fun b hb => .inl hb) hlv.next
                    have HBB : Hid (m.began.W.length = C ∧ ∀ i, i < k → ((kept m.began (of bs)).getD i dC).2 = want WA NO i) := ⟨by rw [hlv.len]; exact hC, by rw [hlv.kept (of bs)]; exact hB⟩
                    clear hS sD hB hlv hL l2 l3 hA hb hk' hV hsz e0 e3 hC
                    go_wp2_with fail
                    go_region_with (go_at_call 15; refine HW.mono ?_; rintro e w5 ⟨rfl, s5, c5⟩)
                    all_goals go_wp2
                    all_goals go_roundw
                    all_goals first | exact ⟨q + 1, C, F, _, _, by omega, rfl, by go_num, HBB.out.1, by omega, HN.out _ s5 c5, HBB.out.2⟩ | (simp [intOf]; omega)
                · have HW := write_out sD.st ho hkp hfl A (by omega) ab (O2 q).zs.length cb
                  have HN : Hid (∀ w5, St w5 p F m.began → Chg F wr.drew w5 → S w p gw gn R k (j + 1 + (q + 1)) F m.began WA NO w5) := fun w5 s5 c5 => sD.op s5 c5 (fun b hb => .inl hb) hlv.next
                  have HBB : Hid (m.began.W.length = C ∧ ∀ i, i < k → ((kept m.began (of bs)).getD i dC).2 = want WA NO i) := ⟨by rw [hlv.len]; exact hC, by rw [hlv.kept (of bs)]; exact hB⟩
                  clear hS sD hB hlv l2 l3 hA hb hk' hV hsz e0 e3 hr hC
                  go_wp2_with fail
                  go_region_with (go_at_call 15; refine HW.mono ?_; rintro e w5 ⟨rfl, s5, c5⟩)
                  all_goals go_wp2
                  all_goals go_roundw
                  all_goals first | exact ⟨q + 1, C, F, _, _, by omega, rfl, by go_num, HBB.out.1, by omega, HN.out _ s5 c5, HBB.out.2⟩ | (simp [intOf]; omega)
              · obtain rfl : q = len2 := by omega
                have hqi : (q : Int) ≤ (q : Int) := by omega
                have ho : m.ops ≤ 1000000000 := by have := hS.live.ops; have := HF2.out.1; omega
                have FL := flight_any hS.st
                rw [hC] at FL
                have HY := crash_any hS.st hS.live.up ho (.slice a3 len3 cap3) bs (H3.out.chg hS.chg (fun _ _ h => h)) (by have := HB3.out.1; omega) (fun b hb e => by have := (hS.fr b e).2.2.2; exact absurd hb (Nat.not_lt.2 this))
                have HN : Hid (∀ w5 w6, St w6 p F { m.crash bs with up := true } → Chg F wr w5 → Chg F w5 w6 → S w p gw gn R k (j + 1 + q) F { m.crash bs with up := true } WA NO w6 ∧ ∀ i, i < k → (Mod.now { m.crash bs with up := true }).getD i dC = (kept m (of bs)).getD i dC) := by
                  intro w5 w6 s6 c5 c6
                  exact ⟨hS.op s6 (c5.then c6) (fun b hb => .inl hb) ⟨rfl, rfl, rfl, hS.live.sz, by simp [Mod.crash, redo_length, hS.live.V], hS.live.ops⟩, fun i hi => rfl⟩
                have HB : Hid (∀ i, i < k → ((kept m (of bs)).getD i dC).2 = want WA NO i) := hB
                have hl2 : q ≤ 200 := HF2.out.1
                clear hS hB ho hC
                go_wp2_with fail
                refine FL.mono ?_
                rintro e w5 ⟨rfl, rfl⟩
                go_wp2_with fail
                refine HY.mono ?_
                rintro e w6 ⟨rfl, s6, c6⟩
                have RB : Calls Try.prog 23 #[.pointer (some ⟨p, 0, none⟩)] w6 fun e w' => e = .returned (.bool true) ∧ St w' p F { m.crash bs with up := true } ∧ Chg F w6 w' := reboot_any s6
                go_wp2_with fail
                refine RB.mono ?_
                rintro e w7 ⟨rfl, s7, c7⟩
                obtain ⟨S7, N7⟩ := HN.out _ _ s7 c6 c7
                have FL7 : Calls Try.prog 27 #[.pointer (some ⟨p, 0, none⟩)] w7 fun e w' => e = .returned (.int .i64 0) ∧ w' = w7 := flight_any s7
                have S8 : ∃ (F : Nat → Prop) (m : Mod), S w p gw gn R k (j + 1 + q + 0) F m WA NO w7 ∧ ∀ i, i < k → (m.now.getD i dC).2 = want WA NO i := ⟨_, _, S7, fun i hi => by rw [N7 i hi]; exact HB.out i hi⟩
                clear S7 N7 s7 c7 s6 c6 RB HY FL HN HB
                go_wp2_with fail
                refine FL7.mono ?_
                rintro e w8 ⟨rfl, rfl⟩
                clear FL7
                have hnq := fun (w : World) (a : Option Addr) (l c : Nat) => run_neq_slice_nil_any (P := Try.prog) w 32 5 a l c 0 0 Try.underlying32
                go_wp2_with fail
                go_loopw [17] (fun i wr => ∃ (t : Nat) (F : Nat → Prop) (m : Mod), t ≤ k ∧ i = .int .i64 (t : Int) ∧ S w p gw gn R k (j + 1 + q + t) F m WA NO wr ∧ ∀ i, i < k → (m.now.getD i dC).2 = want WA NO i) (fun i _ => k - (intOf i).toNat)
                case atStart =>
                  obtain ⟨F, m, s, hb⟩ := S8
                  exact ⟨0, F, m, by omega, rfl, s, hb⟩
                case round =>
                  clear S8
                  obtain ⟨t, F, m, ht, rfl, hS, hB⟩ := hrel
                  by_cases htn : t < k
                  · have hti : (t : Int) < k := by omega
                    have ho : m.ops ≤ 100000000 := by have := hS.live.ops; omega
                    have hkp : m.kp.length ≤ 100000000000 := by rw [hS.live.kp]; simp
                    have RD := read_in hS.st ho hkp hS.live.fails t (by rw [hS.live.V]; omega)
                    rw [hB t htn, hS.live.sz] at RD
                    have HN : Hid (∀ w5, St w5 p F m.began → Chg F wr w5 → S w p gw gn R k (j + 1 + q + (t + 1)) F m.began WA NO w5 ∧ ∀ i, i < k → (m.began.now.getD i dC).2 = want WA NO i) := by
                      intro w5 s5 c5
                      exact ⟨hS.op s5 c5 (fun b hb => .inl hb) hS.live.next, fun i hi => by rw [(began_view m hS.live.fails).2.2.2]; exact hB i hi⟩
                    obtain ⟨q1, q2, q3, q4⟩ := hS.cellw t htn
                    obtain ⟨q5, q6, q7⟩ := hS.celln t htn
                    obtain ⟨wx, wcp, hwx⟩ := lies_four q4 q3
                    rw [hwx] at q1 q4
                    have hRF : ∀ b, R b → ¬ F b := fun b hb e => (hS.fr b e).1 hb
                    rcases q7 with e | ⟨e1, e2⟩
                    · have hw : want WA NO t = (WA.getD t dC).2 := by unfold want; rw [e]; rfl
                      have hwl : (want WA NO t).length = 4 := by rw [hw]; exact q3
                      rw [← hw] at q4
                      rw [e] at q5
                      have q5' : wr.cell? ⟨gn, t, none⟩ = some (.slice none 0 0) := q5
                      have HB5 : Hid (∀ w5 g, Chg F wr w5 → w5.heap[g]? = some (.cells ((want WA NO t).map (Value.int .u8)).toArray 5 (0, 0)) → Calls Try.prog 14 #[.slice (some ⟨g, 0, none⟩) 4 4, .slice (some wx) 4 wcp] w5 fun e w' => e = .returned (.bool true) ∧ w' = w5) := by
                        intro w5 g c5 hg
                        have := lies_block hg 4
                        rw [List.length_map, hwl] at this
                        exact bytes_same this (q4.chg c5 hRF)
                      clear hS hB q2 q3 q4 q6 e hw q5 hwx hwl hRF
                      go_wp2_with fail
                      refine RD.mono ?_
                      rintro e w5 ⟨g, rfl, hg, bg, s5, c5⟩
                      obtain ⟨S5, B5⟩ := HN.out _ s5 c5
                      have BB := HB5.out _ g c5 bg
                      clear RD HN HB5 s5 c5 bg
                      go_wp2_with fail
                      refine BB.mono ?_
                      rintro e w6 ⟨rfl, rfl⟩
                      clear BB
                      go_wp2
                      go_roundw
                      case rel => exact ⟨t + 1, F, _, by omega, by go_num, S5, B5⟩
                      case measure => simp [intOf]; omega
                    · obtain ⟨nx, ncp, hnx⟩ := lies_four e2 e1
                      have hw : want WA NO t = (NO.getD t dC).2 := by
                        unfold want
                        rw [if_neg]
                        intro e
                        rw [e] at e1
                        simp at e1
                      have hwl : (want WA NO t).length = 4 := by rw [hw]; exact e1
                      rw [hnx] at q5 e2
                      rw [← hw] at e2
                      have HB5 : Hid (∀ w5 g, Chg F wr w5 → w5.heap[g]? = some (.cells ((want WA NO t).map (Value.int .u8)).toArray 5 (0, 0)) → Calls Try.prog 14 #[.slice (some ⟨g, 0, none⟩) 4 4, .slice (some nx) 4 ncp] w5 fun e w' => e = .returned (.bool true) ∧ w' = w5) := by
                        intro w5 g c5 hg
                        have := lies_block hg 4
                        rw [List.length_map, hwl] at this
                        exact bytes_same this (e2.chg c5 hRF)
                      clear hS hB q2 q3 q4 q6 e1 e2 hw hwx hnx hwl hRF
                      go_wp2_with fail
                      refine RD.mono ?_
                      rintro e w5 ⟨g, rfl, hg, bg, s5, c5⟩
                      obtain ⟨S5, B5⟩ := HN.out _ s5 c5
                      have BB := HB5.out _ g c5 bg
                      clear RD HN HB5 s5 c5 bg
                      go_wp2_with fail
                      refine BB.mono ?_
                      rintro e w6 ⟨rfl, rfl⟩
                      clear BB
                      go_wp2
                      go_roundw
                      case rel => exact ⟨t + 1, F, _, by omega, by go_num, S5, B5⟩
                      case measure => simp [intOf]; omega
                  · obtain rfl : t = k := by omega
                    have hti : (t : Int) ≤ (t : Int) := by omega
                    have hCh := hS.chg
                    clear hS hB
                    go_wp2_with fail
                    refine (first_any _).mono ?_
                    rintro e w9 ⟨rfl, k9⟩
                    go_wp2
                    go_ret
                    exact ⟨rfl, (hCh.then k9).below⟩

theorem walk (w : World) (a0 : Int) (a1 : Option Addr) (len1 cap1 : Nat) (O1 : Nat → OpA) (a2 : Option Addr) (len2 cap2 : Nat) (O2 : Nat → OpA) (a3 : Option Addr) (len3 cap3 : Nat) (bs : List Bool)
    (w0 : (Lit.int .i64 a0).wf = true) (A1 : OpsAt w a1 len1 O1) (c1 : len1 ≤ cap1) (A2 : OpsAt w a2 len2 O2) (c2 : len2 ≤ cap2) (A3 : Lies (Old w) w (.slice a3 len3 cap3) (bs.map Value.bool)) (c3 : len3 ≤ cap3) :
    Calls Try.prog 4 #[.int .i64 a0, .slice a1 len1 cap1, .slice a2 len2 cap2, .slice a3 len3 cap3] w fun e w' => e = .returned (.bool true) ∧ Below w.heap.size w w' := by
  by_cases hh : a0 < 1 ∨ 30 < a0
  · exact early w a0 a1 len1 cap1 a2 len2 cap2 a3 len3 cap3 hh
  · obtain ⟨n, rfl⟩ := Int.eq_ofNat_of_zero_le (show 0 ≤ a0 by omega)
    exact late w n a1 len1 cap1 O1 a2 len2 cap2 O2 a3 len3 cap3 bs A1 A2 A3 (by omega) (by omega)

theorem own : ownKnob Try.prog.godebug = none := by kernel_rfl
theorem laidOut : laidOutB Try.prog = true := by kernel_rfl

set_option maxRecDepth 100000 in
theorem lifted (os : Os) (started : os.Started) (H : Type) (enc : TypeId × Value → H) :
    ReturnsInHanded {} Try.checked os 4 .any (Rows.cellsSureSpec.pre6 enc Try.prog Try.f4 Rows.cellsSureRow.domain false) (Rows.cellsSureSpec.post enc Try.prog Try.f4 false true false false) := by
  refine returnsInHanded_of_change (C := Try.checked) own started (by kernel_rfl) Try.func4
    (ChangeSpec.witness6 (enc := enc) (C := Try.checked) false ⟨#[], #[.int .i64 0, .slice none 0 0, .slice none 0 0, .slice none 0 0], []⟩ 8 (by kernel_rfl) (by kernel_rfl) (by kernel_rfl) (by kernel_rfl)) ?_
  intro W base args ds gs before hval0 hW hcnd _
  have hval : ∀ (j : Nat) t v, Try.f4.params[j]? = some t → args[j]? = some v → Value.okWide Try.prog W .any base t v := hval0
  have hW' := hW
  obtain ⟨p, q, hA0, hV, rfl, hfz, hnd⟩ := hW
  have hA : DataW.TrodAll enc Try.prog W 0 (fun _ => true) true Try.f4.params.toList args.toList ds p := hA0
  rw [Try.params4] at hA hval
  obtain ⟨v0, vs0, d0, ds0, p0, q0, hargs, rfl, rfl, h0, r0⟩ := trodAll_cons hA
  obtain ⟨v1, vs1, d1, ds1, p1, q1, rfl, rfl, rfl, h1, r1⟩ := trodAll_cons r0
  obtain ⟨v2, vs2, d2, ds2, p2, q2, rfl, rfl, rfl, h2, r2⟩ := trodAll_cons r1
  obtain ⟨v3, vs3, d3, ds3, p3, q3, rfl, rfl, rfl, h3, r3⟩ := trodAll_cons r2
  obtain ⟨rfl, rfl, rfl⟩ := trodAll_nil r3
  obtain rfl : args = #[v0, v1, v2, v3] := by cases args; simp_all
  obtain ⟨rfl, rfl⟩ := trodVars_none hV
  obtain ⟨a0, rfl, rfl, rfl, w0⟩ := open_int Try.underlying3 (hval 0 3 v0 rfl rfl) h0
  obtain ⟨a1, len1, cap1, rfl⟩ := okWide_slice Try.underlying22 (hval 1 22 v1 rfl rfl)
  have k1 := h1
  have lt1 : ∀ x ∈ p1, x.block < W.heap.size := by obtain ⟨m, hm⟩ := k1; exact DataW.trod_lt m _ _ _ hm
  have c1 : len1 ≤ cap1 := by obtain ⟨m, hm⟩ := k1; exact (open_cap Try.underlying22 hm).1
  obtain ⟨O1, w1⟩ := (by obtain ⟨fuel, hf⟩ := h1; exact open_ops hf : ∃ z : Nat → OpA, OpsAt W a1 len1 z)
  obtain ⟨a2, len2, cap2, rfl⟩ := okWide_slice Try.underlying22 (hval 2 22 v2 rfl rfl)
  have k2 := h2
  have lt2 : ∀ x ∈ p2, x.block < W.heap.size := by obtain ⟨m, hm⟩ := k2; exact DataW.trod_lt m _ _ _ hm
  have c2 : len2 ≤ cap2 := by obtain ⟨m, hm⟩ := k2; exact (open_cap Try.underlying22 hm).1
  obtain ⟨O2, w2⟩ := (by obtain ⟨fuel, hf⟩ := h2; exact open_ops hf : ∃ z : Nat → OpA, OpsAt W a2 len2 z)
  obtain ⟨a3, len3, cap3, rfl⟩ := okWide_slice Try.underlying33 (hval 3 33 v3 rfl rfl)
  have k3 := h3
  have lt3 : ∀ x ∈ p3, x.block < W.heap.size := by obtain ⟨m, hm⟩ := k3; exact DataW.trod_lt m _ _ _ hm
  have c3 : len3 ≤ cap3 := by obtain ⟨m, hm⟩ := k3; exact (open_cap Try.underlying33 hm).1
  obtain ⟨b3, w3⟩ := (by obtain ⟨fuel, hf⟩ := h3; exact open_keep hf : ∃ z : List Bool, Lies (Old W) W (.slice a3 len3 cap3) (z.map Value.bool))
  clear hA0 hval0
  refine (walk W a0 a1 len1 cap1 O1 a2 len2 cap2 O2 a3 len3 cap3 b3 w0 w1 c1 w2 c2 w3 c3).mono fun e W' ⟨he, bel⟩ => ?_
  subst he
  exact ⟨_, rfl, _, _, _, [], _, [], hW', trodAll_mk1 (shut_bool Try.underlying4 _), (trodAll_cons_mk (shut_int Try.underlying3 w0) (trodAll_cons_mk (Below.trod laidOut (by kernel_rfl) (of_decide_eq_true (by kernel_rfl)) k1 bel lt1) (trodAll_cons_mk (Below.trod laidOut (by kernel_rfl) (of_decide_eq_true (by kernel_rfl)) k2 bel lt2) (trodAll_cons_mk (Below.trod laidOut (by kernel_rfl) (of_decide_eq_true (by kernel_rfl)) k3 bel lt3) trodAll_mk0)))), rfl, bel.frame _, fun h => by cases h⟩

theorem over : Rows.cellsSureRow.holds Try.pinned (OpenSpec.ofChange Rows.cellsSureSpec) :=
  OpenClaim.holds_of_wide 4 Try.f4 rfl rfl rfl rfl rfl rfl rfl ⟨rfl, rfl, rfl, rfl, rfl⟩ rfl rfl rfl rfl rfl (by kernel_rfl) Try.func4 (by kernel_rfl)
    (of_decide_eq_true (by kernel_rfl)) (by unfold Func.isWrapper; first | (rw [if_pos (by decide +kernel)]; kernel_rfl) | (rw [if_neg (by decide +kernel)]; exact ⟨rfl, rfl⟩))
    (fun os started H enc _ => lifted os started H enc)

theorem proved : Rows.CellsSureSaid := over
end Go.Proofs.Ytjmdjadnllakpaa.cellsSure
namespace Go.Proofs.Ytjmdjadnllakpaa
theorem cellsSure_holds : Rows.CellsSureSaid := cellsSure.proved
#print axioms cellsSure_holds
end Go.Proofs.Ytjmdjadnllakpaa
