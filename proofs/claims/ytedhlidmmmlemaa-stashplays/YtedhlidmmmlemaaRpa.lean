/- The document's Put: a new id, behind all others, no room. -/
import Derived.Test.YtedhlidmmmlemaaRpm
import Derived.Test.YtedhlidmmmlemaaLas
import Derived.Deep.CutBlock
import Derived.Deep.RegionHeld3
namespace Go.Proofs.Ytedhlidmmmlemaa.st
open Go.ChangeShapes Go.WideShapes Go.ChangeAt Go.RowKit Go.Proofs.Ytedhlidmmmlemaa.hp
set_option linter.unusedVariables false
set_option linter.unusedSimpArgs false

set_option maxRecDepth 100000 in
set_option maxHeartbeats 100000000 in
theorem rput_goodA {F D : Nat → Prop} {p : Nat} {v : Value} {xs : List BV} {m : Nat} {w : World} (h1 : Stw 32 37 F D p v xs m w) (h3 : okL (abs xs)) (h4 : (abs xs).length ≤ m) (h5 : m ≤ 64) (id : Int) (a : Option Addr) (c : Nat) (zs : List Int) (hv : Lies (Old w) w (.slice a 37 c) (zs.map (Value.int .u8))) (hb : Bytes zs) (hn : okB (id, zs)) (hf : hasL (abs xs) id = false) (hcap : ∀ a0 c0, v = .slice a0 xs.length c0 → c0 = posL (abs xs) id) :
    Calls Try.prog 11 #[pt p, bv id a 37 c] w fun e w' => e = .returned (.bool true) ∧ St 32 37 (Wid F w w') p (putL (abs xs) (id, zs)) (max m (putL (abs xs) (id, zs)).length) w' ∧ Chg F w w' := by
  obtain ⟨i0, hi0, hz0, hz1, hz2⟩ := info_parts' info37
  have h : St 32 37 F p (abs xs) m w := ⟨v, xs, D, h1, rfl, h3, h4, h5⟩
  have HM : Hid _ := rmay_built w id a 37 c zs hv hb
  rw [decide_eq_true hn] at HM
  have HC : Hid (∀ W, Chg no w W → Calls Try.prog 31 #[.slice a 37 c] W fun e w' => ∃ a' c', e = .returned (.slice a' 37 c') ∧ Lies (Anew W w') w' (.slice a' 37 c') (zs.map (Value.int .u8)) ∧ Chg no W w') := by
    intro W k
    have hl : zs.length = 37 := hn.2.2
    refine (copyBytes_any (Lies.later hv k) (by omega)).mono ?_
    rintro e w' ⟨v', rfl, o, k'⟩
    obtain ⟨a', c', rfl⟩ := owns_shape o
    rw [hl] at o ⊢
    exact ⟨a', c', rfl, Lies.of_owns o (fun b hb => o.lt b hb), k'⟩
  have HSt : Hid (St 32 37 F p (abs xs) m w) := h
  have HFi : Hid (∀ W, Chg no w W → Calls Try.prog 16 #[pt p, .int .i64 id] W fun e w' => e = .returned (.int .i64 (findL (abs xs) id)) ∧ w' = W) := fun W k => rfind_any (HSt.out.same k) id
  have H1 : Hid (Stw 32 37 F D p v xs m w) := h1
  have hx : xs.length ≤ 64 := by rw [abs_len] at h4; omega
  obtain ⟨P, hP⟩ : ∃ P, posL (abs xs) id = P := ⟨_, rfl⟩
  have hB : hasL (abs xs) id = false := hf
  have HP : Hid (posL (abs xs) id = P) := hP
  have HB : Hid (hasL (abs xs) id = false) := hB
  have HOK : Hid (okL (abs xs) ∧ (abs xs).length ≤ m ∧ m ≤ 64 ∧ Bytes zs ∧ okB (id, zs)) := ⟨h3, h4, h5, hb, hn⟩
  have hfi : findL (abs xs) id = if false = true then (P : Int) else -1 := by unfold findL; rw [hP, hB]
  rw [hfi] at HFi
  have HCp : Hid (∀ a0 c0, v = .slice a0 xs.length c0 → c0 = P) := by
    rw [← hP]
    exact hcap
  obtain ⟨n, hnn⟩ : ∃ n, xs.length = n := ⟨_, rfl⟩
  have HL : Hid (xs.length = n) := hnn
  rw [hnn] at hx
  clear hv hb h1 hP hB h3 h4 h5 hn hnn hfi HSt
  go_enter Try.func11, Try.ntmps11
  go_wp2_with fail
  refine (HM.out _ _ (((Chg.refl no w).alloc _).alloc _) (heap_two w _ _).2).mono ?_
  rintro e w1 ⟨rfl, k1⟩
  have K1 : Hid (Chg no w w1) := (((Chg.refl no w).alloc _).alloc _).then k1
  have B1 : w1.heap[w.heap.size]? = some (.cells #[.int .i64 id, .slice a 37 c] 37 (0, 0)) := k1.heap (heap_two w _ _).1 (fun h => h)
  obtain ⟨q0, q1⟩ : w1.cell? ⟨w.heap.size, 0, none⟩ = some (.int .i64 id) ∧ w1.cell? ⟨w.heap.size, 1, none⟩ = some (.slice a 37 c) := ⟨(row_cell (xs := [_, _]) B1 0 _ rfl).1, (row_cell (xs := [_, _]) B1 1 _ rfl).1⟩
  have q2 := lt_of_block B1
  have HB1 : Hid _ := B1
  have HC1 : Hid (∀ W, Chg no w1 W → Calls Try.prog 31 #[.slice a 37 c] W fun e w' => ∃ a' c', e = .returned (.slice a' 37 c') ∧ Lies (Anew W w') w' (.slice a' 37 c') (zs.map (Value.int .u8)) ∧ Chg no w1 w' ∧ w'.cell? ⟨w.heap.size, 0, none⟩ = some (.int .i64 id) ∧ w'.cell? ⟨w.heap.size, 1, none⟩ = some (.slice a 37 c) ∧ w.heap.size < w'.heap.size) := by
    intro W k
    refine (HC.out W (K1.out.then k)).mono ?_
    rintro e w' ⟨a', c', rfl, l, k'⟩
    have b := (k.then k').heap HB1.out (fun h => h)
    exact ⟨a', c', rfl, l, k.then k', (row_cell (xs := [_, _]) b 0 _ rfl).1, (row_cell (xs := [_, _]) b 1 _ rfl).1, lt_of_block b⟩
  have HC2 : Hid (∀ W, Chg no w1 W → W.heap[w1.heap.size]? = some (.cells #[.int .i64 0, .slice none 0 0] 37 (0, 0)) → Calls Try.prog 31 #[.slice a 37 c] W fun e w' => ∃ a' c', e = .returned (.slice a' 37 c') ∧ Lies (Anew W w') w' (.slice a' 37 c') (zs.map (Value.int .u8)) ∧ Chg no w1 w' ∧ w'.cell? ⟨w.heap.size, 0, none⟩ = some (.int .i64 id) ∧ w'.cell? ⟨w.heap.size, 1, none⟩ = some (.slice a 37 c) ∧ w.heap.size < w'.heap.size ∧
      w'.cell? ⟨w1.heap.size, 0, none⟩ = some (.int .i64 0) ∧ w'.cell? ⟨w1.heap.size, 1, none⟩ = some (.slice none 0 0) ∧ w'.frozen? ⟨w1.heap.size, 0, none⟩ = false ∧ w'.frozen? ⟨w1.heap.size, 1, none⟩ = false ∧ w1.heap.size < w'.heap.size ∧ w'.heap[w1.heap.size]? = some (.cells #[.int .i64 0, .slice none 0 0] 37 (0, 0)) ∧ w1.heap.size < W.heap.size) := by
    intro W k hW
    refine (HC.out W (K1.out.then k)).mono ?_
    rintro e w' ⟨a', c', rfl, l, k'⟩
    have b := (k.then k').heap HB1.out (fun h => h)
    have b2 := k'.heap hW (fun h => h)
    exact ⟨a', c', rfl, l, k.then k', (row_cell (xs := [_, _]) b 0 _ rfl).1, (row_cell (xs := [_, _]) b 1 _ rfl).1, lt_of_block b, (row_cell (xs := [_, _]) b2 0 _ rfl).1, (row_cell (xs := [_, _]) b2 1 _ rfl).1, (row_cell (xs := [_, _]) b2 0 _ rfl).2, (row_cell (xs := [_, _]) b2 1 _ rfl).2, lt_of_block b2, b2, lt_of_block hW⟩
  clear k1 HM B1 HC
  have HE1 : Hid (∀ W w2 a2 c2, Chg no w1 w2 → Lies (Anew W w2) w2 (.slice a2 37 c2) (zs.map (Value.int .u8)) → w.heap.size ≤ W.heap.size → ∃ Q x y, Value.pointer (some ⟨w2.heap.size, 0, none⟩) = .pointer (some ⟨Q, 0, none⟩) ∧ w.heap.size < Q ∧ (w2.alloc (.cells #[.int .i64 id, .slice a2 37 c2] 37)).heap[Q]? = some (.cells #[.int .i64 id, .slice x 37 y] 37 (0, 0)) ∧ (w2.alloc (.cells #[.int .i64 id, .slice a2 37 c2] 37)).heap[w.heap.size]? = some (.cells #[.int .i64 id, .slice a 37 c] 37 (0, 0)) ∧
      Lies (Anew w (w2.alloc (.cells #[.int .i64 id, .slice a2 37 c2] 37))) (w2.alloc (.cells #[.int .i64 id, .slice a2 37 c2] 37)) (.slice x 37 y) (zs.map (Value.int .u8)) ∧ Chg no w (w2.alloc (.cells #[.int .i64 id, .slice a2 37 c2] 37))) := by
    intro W w2 a2 c2 k2 l2 hW
    have hb := k2.heap HB1.out (fun h => h)
    refine ⟨_, a2, c2, rfl, lt_of_block hb, heap_alloc_new _ _, ((Chg.refl no w2).alloc _).heap hb (fun h => h), (l2.chg ((Chg.refl no w2).alloc _) (fun _ _ h => h)).mono (fun b hb => ⟨?_, ?_⟩), (K1.out.then k2).alloc _⟩
    · have := hb.1
      omega
    · have := hb.2
      simp
      omega
  have HE2 : Hid (∀ W w2 a2 c2, Chg no w1 w2 → Lies (Anew W w2) w2 (.slice a2 37 c2) (zs.map (Value.int .u8)) → w1.heap.size < W.heap.size → w2.heap[w1.heap.size]? = some (.cells #[.int .i64 0, .slice none 0 0] 37 (0, 0)) → ∃ Q x y, Value.pointer (some ⟨w1.heap.size, 0, none⟩) = .pointer (some ⟨Q, 0, none⟩) ∧ w.heap.size < Q ∧ ((w2.setCell ⟨w1.heap.size, 0, none⟩ (.int .i64 id)).setCell ⟨w1.heap.size, 1, none⟩ (.slice a2 37 c2)).heap[Q]? = some (.cells #[.int .i64 id, .slice x 37 y] 37 (0, 0)) ∧
      ((w2.setCell ⟨w1.heap.size, 0, none⟩ (.int .i64 id)).setCell ⟨w1.heap.size, 1, none⟩ (.slice a2 37 c2)).heap[w.heap.size]? = some (.cells #[.int .i64 id, .slice a 37 c] 37 (0, 0)) ∧
      Lies (Anew w ((w2.setCell ⟨w1.heap.size, 0, none⟩ (.int .i64 id)).setCell ⟨w1.heap.size, 1, none⟩ (.slice a2 37 c2))) ((w2.setCell ⟨w1.heap.size, 0, none⟩ (.int .i64 id)).setCell ⟨w1.heap.size, 1, none⟩ (.slice a2 37 c2)) (.slice x 37 y) (zs.map (Value.int .u8)) ∧ Chg no w ((w2.setCell ⟨w1.heap.size, 0, none⟩ (.int .i64 id)).setCell ⟨w1.heap.size, 1, none⟩ (.slice a2 37 c2))) := by
    intro W w2 a2 c2 k2 l2 hW hz
    have hb := k2.heap HB1.out (fun h => h)
    have hq := lt_of_block HB1.out
    have K := chg_two w2 w1.heap.size 0 1 (.int .i64 id) (.slice a2 37 c2)
    have s1 := K1.out.size
    have s2 := k2.size
    have s3 := K.size
    refine ⟨_, a2, c2, rfl, hq, row_set (xs := [_, _]) (row_set (xs := [_, _]) hz 0 (.int .i64 id)) 1 (.slice a2 37 c2), K.heap hb (by omega), (l2.chg K (fun b hb e => by have := hb.1; omega)).mono (fun b hb => ⟨?_, ?_⟩), (K1.out.then k2).trans K (fun b hb => .inr (by omega))⟩
    · have := hb.1
      omega
    · have := hb.2
      omega
  have s1 := K1.out.size
  go_upto_region 3 with fail
  go_cut [5] from 12 to 17 (fun own wc => ∃ Q x y, own = .pointer (some ⟨Q, 0, none⟩) ∧ w.heap.size < Q ∧ wc.heap[Q]? = some (.cells #[.int .i64 id, .slice x 37 y] 37 (0, 0)) ∧ wc.heap[w.heap.size]? = some (.cells #[.int .i64 id, .slice a 37 c] 37 (0, 0)) ∧ Lies (Anew w wc) wc (.slice x 37 y) (zs.map (Value.int .u8)) ∧ Chg no w wc)
  case first =>
    clear HFi HOK H1 HP HB HL
    go_region_with (go_at_call 31; first
      | (refine (HC2.out _ ?_ ?_).mono ?_; exact ((Chg.refl no w1).alloc _).drew; exact heap_alloc_new w1 _; rintro e w2 ⟨a2, c2, rfl, l2, k2, j0, j1, j2, j3, j4, j5, j6, j7, j8, j9⟩; have HY := HE2.out _ _ _ _ k2 l2 j9 j8; have HY2 : Hid _ := HY; clear HY l2 k2)
      | (refine (HC1.out _ ?_).mono ?_; exact (Chg.refl no w1).drew; rintro e w2 ⟨a2, c2, rfl, l2, k2, j0, j1, j2⟩; have HY := HE1.out _ _ _ _ k2 l2 s1; have HY2 : Hid _ := HY; clear HY l2 k2))
    all_goals (go_wp2; go_meet; case rel => exact HY2.out)
  case rest =>
    clear HC1 HC2 HE1 HE2 HB1 q0 q1 q2
    obtain ⟨Q, a2, c2, rfl, hQ, B4, Bw, l4, k4⟩ := hcut
    have K4 : Hid (Chg no w wc) := k4
    have L4 : Hid (Lies (Anew w wc) wc (.slice a2 37 c2) (zs.map (Value.int .u8))) := l4
    obtain ⟨t0, t1⟩ : wc.cell? ⟨Q, 0, none⟩ = some (.int .i64 id) ∧ wc.cell? ⟨Q, 1, none⟩ = some (.slice a2 37 c2) := ⟨(row_cell (xs := [_, _]) B4 0 _ rfl).1, (row_cell (xs := [_, _]) B4 1 _ rfl).1⟩
    have t2 := lt_of_block B4
    obtain ⟨t3, t4⟩ : wc.cell? ⟨w.heap.size, 0, none⟩ = some (.int .i64 id) ∧ wc.cell? ⟨w.heap.size, 1, none⟩ = some (.slice a 37 c) := ⟨(row_cell (xs := [_, _]) Bw 0 _ rfl).1, (row_cell (xs := [_, _]) Bw 1 _ rfl).1⟩
    have t5 := lt_of_block Bw
    have S4 := H1.out.same k4
    have HS4 : Hid (Stw 32 37 F D p v xs m wc) := S4
    have HBQ : Hid (wc.heap[Q]? = some (.cells #[.int .i64 id, .slice a2 37 c2] 37 (0, 0))) := B4
    have HBw : Hid (wc.heap[w.heap.size]? = some (.cells #[.int .i64 id, .slice a 37 c] 37 (0, 0))) := Bw
    obtain ⟨d0, d1, d2, d3, d4⟩ := S4.cells
    have hplt := H1.out.lt p H1.out.fp
    have hpq : p ≠ Q := by omega
    have hpw : p ≠ w.heap.size := by omega
    have HR := HFi.out wc k4
    clear l4 B4 Bw HFi k4 s1
    go_wp2_with fail
    refine HR.mono ?_
    rintro e w5 ⟨rfl, rfl⟩
    clear HR
    · have hif : (if false = true then (P : Int) else -1) = -1 := rfl
      have hle : P ≤ n := by
        have := pos_le (abs xs) id
        rwa [HP.out, abs_len, HL.out] at this
      obtain ⟨a0, c0, hv⟩ := S4.shape
      rw [HL.out] at hv
      subst hv
      have HCq : Hid (c0 = P) := HCp.out a0 c0 (by rw [HL.out])
      have hni : (n : Int) ≤ 64 := by omega
      clear S4
      go_upto_block 0 with fail
      go_cut [7] from 31 to 52 (fun i wd => i = .int .i64 (P : Int) ∧ Chg no w5 wd)
      case first =>
        clear HOK HBQ L4 t0 t1 t2
        go_wp2_with fail
        go_loopw [7] (fun i wr => ∃ k : Nat, k ≤ P ∧ i = .int .i64 (k : Int) ∧ Chg no w5 wr) (fun i _ => P - (intOf i).toNat)
        case atStart => exact ⟨0, by omega, rfl, Chg.refl no w5⟩
        case round =>
          obtain ⟨k, hk, rfl, hC⟩ := hrel
          have HC : Hid (Chg no w5 wr) := hC
          have Sr := HS4.out.same hC
          obtain ⟨e0, _, _, _, e4⟩ := Sr.cells
          have gw := hC.heap HBw.out (fun h => h)
          have e5 := (row_cell (xs := [_, _]) gw 0 _ rfl).1
          have e6 := lt_of_block gw
          by_cases hkn : k < n
          · have hki : (k : Int) < n := by omega
            have hd : decide ((k : Int) < n) = true := by simp; omega
            obtain ⟨g, c1, ab, cb, hv, f0, _, _, _, _, f6⟩ := Sr.at k (by rw [HL.out]; exact hkn)
            rw [HL.out] at hv
            simp only [Value.slice.injEq] at hv
            obtain ⟨rfl, _, rfl⟩ := hv
            have hdN : decide (k < n) = true := by simp; omega
            obtain ⟨I, hI⟩ : ∃ I, (xs.getD k dBV).id = I := ⟨_, rfl⟩
            have HI : ((abs xs).getD k dBk).1 = I := by
              rw [abs_getD, ← hI]
              rfl
            rw [hI] at f0
            have hbef := pos_before (abs xs) id
            have hat := pos_at (abs xs) id
            rw [HP.out] at hbef hat
            by_cases hlt : I < id
            · have hkP : k < P := by
                by_cases e : k < P
                · exact e
                · have e2 : k = P := by omega
                  have := hat (by rw [abs_len, HL.out]; omega)
                  rw [← e2, HI] at this
                  omega
              have hd2 : decide (I < id) = true := by simp; omega
              clear hbef hat HI hI Sr gw hC
              go_wp2_with fail
              go_quiet (fail)
              go_wp2
              go_roundw
              case rel => exact ⟨k + 1, by omega, by go_num, HC.out.drewN _⟩
              case measure => simp [intOf]; omega
            · have hkP : k = P := by
                by_cases e : k < P
                · have := hbef k e
                  rw [HI] at this
                  omega
                · omega
              subst hkP
              have hle2 : id ≤ I := by omega
              have hd2 : decide (I < id) = false := by simp; omega
              clear hbef hat HI hI Sr gw hC
              go_wp2_with fail
              go_quiet (fail)
              go_wp2
              go_meet
              case rel => exact ⟨rfl, HC.out.drewN _⟩
          · obtain rfl : k = n := by omega
            obtain rfl : P = k := by omega
            have hki : (P : Int) ≤ P := by omega
            have hd : decide ((P : Int) < P) = false := by simp
            have hdN : decide (P < P) = false := by simp
            clear Sr gw hC
            go_wp2_with fail
            go_quiet (fail)
            go_wp2
            go_meet
            case rel => exact ⟨rfl, HC.out.drewN _⟩
      case rest =>
        obtain ⟨rfl, kd⟩ := hcut
        obtain ⟨wB, hwB⟩ : ∃ wB, wB = wc := ⟨_, rfl⟩
        subst hwB
        have KB : Chg no w wB := K4.out.then kd
        have kdd : Hid (Chg no w5 wB) := kd
        have SB := H1.out.same KB
        have HSB : Hid (Stw 32 37 F D p (.slice a0 n c0) xs m wB) := SB
        have HKB : Hid (Chg no w wB) := KB
        have gQ := kd.heap HBQ.out (fun h => h)
        have HGQ : Hid (wB.heap[Q]? = some (.cells #[.int .i64 id, .slice a2 37 c2] 37 (0, 0))) := gQ
        have HPC : Hid (∀ W, Chg no wB W → W.cell? ⟨p, 0, none⟩ = some (.slice a0 n c0) ∧ W.frozen? ⟨p, 0, none⟩ = false ∧ p < W.heap.size ∧ W.heap[p]? = some (.cells #[.slice a0 n c0, .int .i64 (m : Int)] 32 (0, 0)) ∧ W.cell? ⟨Q, 0, none⟩ = some (.int .i64 id) ∧ W.cell? ⟨Q, 1, none⟩ = some (.slice a2 37 c2) ∧ Q < W.heap.size) := by
          intro W k
          have S := HSB.out.same k
          have g := k.heap HGQ.out (fun h => h)
          exact ⟨S.cells.1, S.cells.2.2.1, S.cells.2.2.2.2, S.box, (row_cell (xs := [_, _]) g 0 _ rfl).1, (row_cell (xs := [_, _]) g 1 _ rfl).1, lt_of_block g⟩
        obtain ⟨z0, z1, z2, z3, z4, z5, z6⟩ := HPC.out wB (Chg.refl no wB)
        have hc0 : n ≤ c0 ∧ c0 ≤ 9223372036854775807 := by
          have hro := SB.row
          rw [HL.out] at hro
          rcases hro.2 with ⟨hh, h0⟩ | ⟨g, cap, cur, hh, _, _, q1, q2, _⟩
          · cases hh
            omega
          · cases hh
            unfold maxLen at q2
            omega
        obtain ⟨hc1, hc2⟩ := hc0
        have hci : (c0 : Int) ≤ 9223372036854775807 := by omega
        have hPn : (P : Int) ≤ (n : Int) := by omega
        have hPc : (P : Int) ≤ (c0 : Int) := by omega
        have HFr : Hid (∀ W, Chg no wB W → Lie (Old W) W (.slice a0 P c0) P ((xs.take P).flatMap fb)) := fun W k => HSB.out.front k P (by rw [HL.out]; omega)
        have HLa : Hid (((xs.take P).flatMap fb).length = P * 2 ∧ ∀ u ∈ (xs.take P).flatMap fb, u.oneCell' = true) := ⟨by rw [flat_length lenb, List.length_take, HL.out, Nat.min_eq_left (by omega)], SB.one _ (fun y hy => List.mem_of_mem_take hy)⟩
        have HLb : Hid (((xs.drop P).flatMap fb).length = (n - P) * 2 ∧ ∀ u ∈ (xs.drop P).flatMap fb, u.oneCell' = true) := ⟨by rw [flat_length lenb, List.length_drop, HL.out], SB.one _ (fun y hy => List.mem_of_mem_drop hy)⟩
        have HX : Hid (∀ (W : World) (g : Nat), W.heap[g]? = some (.cells #[.int .i64 id, .slice a2 37 c2] 37 (0, 0)) → Lie (fun _ => True) W (.slice (some ⟨g, 0, none⟩) 1 1) 1 [.int .i64 id, .slice a2 37 c2]) := by
          intro W g hg
          refine .inr ⟨_, _, rfl, fun _ => trivial, fun i u hu => ?_⟩
          rw [Addr.add_lit, Nat.zero_add]
          exact (row_cell (xs := [_, _]) hg i u hu).1
        obtain ⟨A, hA⟩ : ∃ A, (xs.take P).flatMap fb = A := ⟨_, rfl⟩
        obtain ⟨U, hU⟩ : ∃ U, (xs.drop P).flatMap fb = U := ⟨_, rfl⟩
        have HA : Hid ((xs.take P).flatMap fb = A) := hA
        have HU : Hid ((xs.drop P).flatMap fb = U) := hU
        rw [hA] at HFr HLa
        rw [hU] at HLb
        have hPm : P ≤ maxLen := by unfold maxLen; omega
        have hP1m : P + 1 ≤ maxLen := by unfold maxLen; omega
        have hNm : n + 1 ≤ maxLen := by unfold maxLen; omega
        have hPb : P * 32 ≤ 140737488355328 := by omega
        have hP1b : (P + 1) * 32 ≤ 140737488355328 := by omega
        have hNb : (n + 1) * 32 ≤ 140737488355328 := by omega
        have hPN1 : P + 1 + (n - P) = n + 1 := by omega
        clear kd KB SB gQ hA hU HBQ HBw HS4 d0 d1 d2 d3 d4 t0 t1 t2 t3 t4 t5
        go_upto_region 11 with fail
        have HM1 : Hid (∀ W, Chg no (wB.alloc (.cells #[] 37)) W → Fresh 37 2 wB W (.slice (some ⟨wB.heap.size, 0, none⟩) 0 0) 0 []) := fun W k => Fresh.made 37 2 (Chg.refl no wB) k
        have HM3 : Hid (∀ W, Chg no ((wB.alloc (.cells #[.int .i64 id, .slice a2 37 c2] 37)).alloc (.cells #[] 37)) W → Fresh 37 2 wB W (.slice (some ⟨wB.heap.size + 1, 0, none⟩) 0 0) 0 []) := by
          intro W k
          have := Fresh.made 37 2 ((Chg.refl no wB).alloc (.cells #[.int .i64 id, .slice a2 37 c2] 37)) k
          rwa [show (wB.alloc (.cells #[.int .i64 id, .slice a2 37 c2] 37)).heap.size = wB.heap.size + 1 by simp] at this
        have HRel : Hid (∀ b7 c7 w7, Fresh 37 2 wB w7 (.slice b7 (n + 1) c7) (n + 1) ([] ++ A ++ [.int .i64 id, .slice a2 37 c2] ++ U) → ∃ b8 c8 w8, Fresh 37 2 wB w8 (.slice b8 (n + 1) c8) (n + 1) (A ++ ([.int .i64 id, .slice a2 37 c2] ++ U)) ∧ (w7.setCell ⟨p, 0, none⟩ (.slice b7 (n + 1) c7)).heap[p]? = some (.cells #[.slice b8 (n + 1) c8, .int .i64 (m : Int)] 32 (0, 0)) ∧ Chg (fun k => k = p) w8 (w7.setCell ⟨p, 0, none⟩ (.slice b7 (n + 1) c7))) := by
          intro b7 c7 w7 f7
          refine ⟨b7, c7, w7, by simpa using f7, row_set (xs := [_, _]) (HPC.out w7 f7.2).2.2.2.1 0 (.slice b7 (n + 1) c7), (Chg.refl _ w7).setCell _ _ (.inl rfl)⟩
        have hxs := HL.out
        have L4B : Hid (Lies (Anew w wB) wB (.slice a2 37 c2) (zs.map (Value.int .u8))) := (L4.out.chg kdd.out (fun _ _ h => h)).mono (fun b hb => ⟨hb.1, by have := hb.2; have := kdd.out.size; omega⟩)
        clear hxs
        go_cut [] from 53 to 73 (fun wd => ∃ b8 c8 w8, Fresh 37 2 wB w8 (.slice b8 (n + 1) c8) (n + 1) (A ++ ([.int .i64 id, .slice a2 37 c2] ++ U)) ∧ wd.heap[p]? = some (.cells #[.slice b8 (n + 1) c8, .int .i64 (m : Int)] 32 (0, 0)) ∧ Chg (fun k => k = p) w8 wd)
        case first =>
          clear HOK HP HB H1 K4 K1 L4 L4B HKB HGQ kdd
          have hcap := HCq.out
          clear HCq HCp
          · have hnP : n - P = 0 := by omega
            have HRe2 : Hid (∀ W, Chg no wB W → Lie (Old W) W (.slice a0 0 0) (n - P) U) := by
              intro W k
              have hU0 : U = [] := by
                rw [← HU.out, List.drop_of_length_le (by rw [HL.out]; omega)]
                rfl
              rw [hU0, hnP]
              exact lie_none _ _ _ _ (fun _ => rfl)
            have hcn : n = P := by omega
            subst hcap
            subst hcn
            have hz0' : n - n = 0 := Nat.sub_self n
            clear HL HU HA HSB
            have kD0 : Chg no wB wB.drew := (Chg.refl no wB).drew
            refine las.start (fun W => W.cell? ⟨p, 0, none⟩ = some (.slice a0 n n) ∧ W.cell? ⟨Q, 0, none⟩ = some (.int .i64 id) ∧ W.cell? ⟨Q, 1, none⟩ = some (.slice a2 37 c2)) 21 (by kernel_rfl) ?_
            obtain ⟨wD, hwD⟩ : ∃ W, wB.drew = W := ⟨_, rfl⟩
            rw [hwD] at kD0
            simp only [hwD]
            have kD : Chg no wB wD := kD0
            have HS : Hid (∀ W, Chg no wB W → (fun W => W.cell? ⟨p, 0, none⟩ = some (.slice a0 n n) ∧ W.cell? ⟨Q, 0, none⟩ = some (.int .i64 id) ∧ W.cell? ⟨Q, 1, none⟩ = some (.slice a2 37 c2)) W) := fun W k => ⟨(HPC.out W k).1, (HPC.out W k).2.2.2.2.1, (HPC.out W k).2.2.2.2.2.1⟩
            have hS0 := HS.out _ kD
            clear hwD kD0
            refine las.take (i := 0) 12 ?_ rfl (by kernel_rfl) (by kernel_rfl) (by kernel_rfl) (by kernel_rfl) (by kernel_rfl) (fun _ _ _ h => h) (by rfl) ?_ hS0 ?_
            rotate_left
            · intro wS hSw
              try dsimp only at hSw
              first | (go_simp; done) | (go_simp; rfl)
            simp only [Act.put, List.setIfInBounds_toArray, List.set_cons_zero, List.set_cons_succ]
            refine las.take (i := 2) 12 ?_ rfl (by kernel_rfl) (by kernel_rfl) (by kernel_rfl) (by kernel_rfl) (by kernel_rfl) (fun _ _ _ h => h) (by rfl) ?_ hS0 ?_
            rotate_left
            · intro wS hSw
              try dsimp only at hSw
              first | (go_simp; done) | (go_simp; rfl)
            simp only [Act.put, List.setIfInBounds_toArray, List.set_cons_zero, List.set_cons_succ]
            refine las.take (i := 3) 12 ?_ rfl (by kernel_rfl) (by kernel_rfl) (by kernel_rfl) (by kernel_rfl) (by kernel_rfl) (fun _ _ _ h => h) (by rfl) ?_ hS0 ?_
            rotate_left
            · intro wS hSw
              try dsimp only at hSw
              first | (go_simp; done) | (go_simp; rfl)
            simp only [Act.put, List.setIfInBounds_toArray, List.set_cons_zero, List.set_cons_succ]
            refine las.take (i := 4) 12 ?_ rfl (by kernel_rfl) (by kernel_rfl) (by kernel_rfl) (by kernel_rfl) (by kernel_rfl) (fun _ _ _ h => h) (by rfl) ?_ hS0 ?_
            rotate_left
            · intro wS hSw
              try dsimp only at hSw
              first | (go_simp; done) | (go_simp; rfl)
            simp only [Act.put, List.setIfInBounds_toArray, List.set_cons_zero, List.set_cons_succ]
            refine las.take (i := 5) 12 ?_ rfl (by kernel_rfl) (by kernel_rfl) (by kernel_rfl) (by kernel_rfl) (by kernel_rfl) (fun _ _ _ h => h) (by rfl) ?_ hS0 ?_
            rotate_left
            · intro wS hSw
              try dsimp only at hSw
              first | (go_simp; done) | (go_simp; rfl)
            simp only [Act.put, List.setIfInBounds_toArray, List.set_cons_zero, List.set_cons_succ]
            refine las.take (i := 6) 12 ?_ rfl (by kernel_rfl) (by kernel_rfl) (by kernel_rfl) (by kernel_rfl) (by kernel_rfl) (fun _ _ _ h => h) (by rfl) ?_ hS0 ?_
            rotate_left
            · intro wS hSw
              try dsimp only at hSw
              first | (go_simp; done) | (go_simp; rfl)
            simp only [Act.put, List.setIfInBounds_toArray, List.set_cons_zero, List.set_cons_succ]
            refine las.take (i := 7) 12 ?_ rfl (by kernel_rfl) (by kernel_rfl) (by kernel_rfl) (by kernel_rfl) (by kernel_rfl) (fun _ _ _ h => h) (by rfl) ?_ hS0 ?_
            rotate_left
            · intro wS hSw
              try dsimp only at hSw
              first | (go_simp; done) | (go_simp; rfl)
            simp only [Act.put, List.setIfInBounds_toArray, List.set_cons_zero, List.set_cons_succ]
            refine las.take (i := 9) 12 ?_ rfl (by kernel_rfl) (by kernel_rfl) (by kernel_rfl) (by kernel_rfl) (by kernel_rfl) (fun _ _ _ h => h) (by rfl) ?_ hS0 ?_
            rotate_left
            · intro wS hSw
              try dsimp only at hSw
              first | (go_simp; done) | (go_simp; rfl)
            simp only [Act.put, List.setIfInBounds_toArray, List.set_cons_zero, List.set_cons_succ]
            refine las.take (i := 12) 12 ?_ rfl (by kernel_rfl) (by kernel_rfl) (by kernel_rfl) (by kernel_rfl) (by kernel_rfl) (fun _ _ _ h => h) (by rfl) ?_ hS0 ?_
            rotate_left
            · intro wS hSw
              try dsimp only at hSw
              first | (go_simp; done) | (go_simp; rfl)
            simp only [Act.put, List.setIfInBounds_toArray, List.set_cons_zero, List.set_cons_succ]
            refine las.take (i := 13) 12 ?_ rfl (by kernel_rfl) (by kernel_rfl) (by kernel_rfl) (by kernel_rfl) (by kernel_rfl) (fun _ _ _ h => h) (by rfl) ?_ hS0 ?_
            rotate_left
            · intro wS hSw
              try dsimp only at hSw
              first | (go_simp; done) | (go_simp; rfl)
            simp only [Act.put, List.setIfInBounds_toArray, List.set_cons_zero, List.set_cons_succ]
            refine las.take (i := 14) 12 ?_ rfl (by kernel_rfl) (by kernel_rfl) (by kernel_rfl) (by kernel_rfl) (by kernel_rfl) (fun _ _ _ h => h) (by rfl) ?_ hS0 ?_
            rotate_left
            · intro wS hSw
              try dsimp only at hSw
              first | (go_simp; done) | (go_simp; rfl)
            simp only [Act.put, List.setIfInBounds_toArray, List.set_cons_zero, List.set_cons_succ]
            refine las.take (i := 15) 12 ?_ rfl (by kernel_rfl) (by kernel_rfl) (by kernel_rfl) (by kernel_rfl) (by kernel_rfl) (fun _ _ _ h => h) (by rfl) ?_ hS0 ?_
            rotate_left
            · intro wS hSw
              try dsimp only at hSw
              first | (go_simp; done) | (go_simp; rfl)
            simp only [Act.put, List.setIfInBounds_toArray, List.set_cons_zero, List.set_cons_succ]
            refine las.take (i := 16) 12 ?_ rfl (by kernel_rfl) (by kernel_rfl) (by kernel_rfl) (by kernel_rfl) (by kernel_rfl) (fun _ _ _ h => h) (by rfl) ?_ hS0 ?_
            rotate_left
            · intro wS hSw
              try dsimp only at hSw
              first | (go_simp; done) | (go_simp; rfl)
            simp only [Act.put, List.setIfInBounds_toArray, List.set_cons_zero, List.set_cons_succ]
            refine las.take (i := 17) 12 ?_ rfl (by kernel_rfl) (by kernel_rfl) (by kernel_rfl) (by kernel_rfl) (by kernel_rfl) (fun _ _ _ h => h) (by rfl) ?_ hS0 ?_
            rotate_left
            · intro wS hSw
              try dsimp only at hSw
              first | (go_simp; done) | (go_simp; rfl)
            simp only [Act.put, List.setIfInBounds_toArray, List.set_cons_zero, List.set_cons_succ]
            refine las.each (rs := [1, 10]) (by kernel_rfl) rfl ?_
            refine las.Each.cons rfl (fun K hK => ?_) (las.Each.cons rfl (fun K hK => ?_) las.Each.nil)
            · go_simp
              refine hK.out _ _ (HS.out _ (kD.alloc _)) ?_
              try simp only [Act.put, List.setIfInBounds_toArray, List.set_cons_zero, List.set_cons_succ]
              clear hK K
              refine las.each (rs := [8, 10]) (by kernel_rfl) rfl ?_
              refine las.Each.cons rfl (fun K hK => ?_) (las.Each.cons rfl (fun K hK => ?_) las.Each.nil)
              · refine step_fresh rfl (.tmp 54) (.tmp 60) 30 rfl 37 i0 bz 2 32 Try.underlying30 hi0 hz0 hz1 hz2 rfl (by decide) (.slice (some ⟨wD.heap.size, 0, none⟩) 0 0) 0 [] (by simp [Act.eval, Act.put]) (Fresh.made 37 2 kD (Chg.refl no _)) _ (.slice a0 n n) n A (by simp [Act.eval, Act.put]) (HFr.out _ (kD.alloc _)) HLa.out.1 HLa.out.2 n (Nat.zero_add n) hPm hPb ?_
                intro b5 c5 w5' F5 _
                refine hK.out _ _ (HS.out _ F5.out.2) ?_
                simp only [Act.put, List.setIfInBounds_toArray, List.set_cons_zero, List.set_cons_succ]
                clear hK K
                refine las.each (rs := [10]) (by kernel_rfl) rfl ?_
                refine las.Each.cons rfl (fun K hK => ?_) las.Each.nil
                go_simp
                refine hK.out _ _ (HS.out _ (F5.out.2.alloc _)) ?_
                try simp only [Act.put, List.setIfInBounds_toArray, List.set_cons_zero, List.set_cons_succ]
                clear hK K
                refine las.each (rs := [11]) (by kernel_rfl) rfl ?_
                refine las.Each.cons rfl (fun K hK => ?_) las.Each.nil
                refine step_fresh rfl (.tmp 61) (.tmp 63) 30 rfl 37 i0 bz 2 32 Try.underlying30 hi0 hz0 hz1 hz2 rfl (by decide) (.slice b5 n c5) n _ (by simp [Act.eval, Act.put]) (F5.out.same ((Chg.refl no w5').alloc _)) _ (.slice (some ⟨w5'.heap.size, 0, none⟩) 1 1) 1 [.int .i64 id, .slice a2 37 c2] (by simp [Act.eval, Act.put]) (HX.out _ _ (heap_alloc_new w5' _)) rfl (one_b _ _ _ _) (n + 1) rfl hP1m hP1b ?_
                intro b6 c6 w6 F6 _
                refine hK.out _ _ (HS.out _ F6.out.2) ?_
                simp only [Act.put, List.setIfInBounds_toArray, List.set_cons_zero, List.set_cons_succ]
                clear hK K
                refine las.each (rs := [18]) (by kernel_rfl) rfl ?_
                refine las.Each.cons rfl (fun K hK => ?_) las.Each.nil
                refine step_fresh rfl (.tmp 64) (.tmp 70) 30 rfl 37 i0 bz 2 32 Try.underlying30 hi0 hz0 hz1 hz2 rfl (by decide) (.slice b6 (n + 1) c6) (n + 1) _ (by simp [Act.eval, Act.put]) F6.out _ (.slice a0 0 0) (n - n) U (by simp [Act.eval, Act.put]) (HRe2.out _ F6.out.2) HLb.out.1 HLb.out.2 (n + 1) hPN1 hNm hNb ?_
                intro b7 c7 w7 F7 _
                refine hK.out _ _ (HS.out _ F7.out.2) ?_
                simp only [Act.put, List.setIfInBounds_toArray, List.set_cons_zero, List.set_cons_succ]
                clear hK K
                obtain ⟨v0, v1, v2, v3, v4, v5, v6⟩ := HPC.out w7 F7.out.2
                have hS7 := HS.out _ F7.out.2
                refine las.take (i := 19) 12 ?_ rfl (by kernel_rfl) (by kernel_rfl) (by kernel_rfl) (by kernel_rfl) (by kernel_rfl) (fun _ _ _ h => h) (by rfl) ?_ hS7 ?_
                rotate_left
                · intro wS hSw
                  try dsimp only at hSw
                  first | (go_simp; done) | (go_simp; rfl)
                simp only [Act.put, List.setIfInBounds_toArray, List.set_cons_zero, List.set_cons_succ]
                refine las.take (i := 20) 12 ?_ rfl (by kernel_rfl) (by kernel_rfl) (by kernel_rfl) (by kernel_rfl) (by kernel_rfl) (fun _ _ _ h => h) (by rfl) ?_ hS7 ?_
                rotate_left
                · intro wS hSw
                  try dsimp only at hSw
                  first | (go_simp; done) | (go_simp; rfl)
                simp only [Act.put, List.setIfInBounds_toArray, List.set_cons_zero, List.set_cons_succ]
                refine las.each (rs := [21]) (by kernel_rfl) rfl ?_
                refine las.Each.last rfl (by kernel_rfl) (fun K hK => ?_)
                go_simp
                refine hK.out _ _ ?_
                try simp only [Act.put, List.setIfInBounds_toArray, List.set_cons_zero, List.set_cons_succ]
                clear hK K
                refine las.done (by kernel_rfl) ?_ _
                go_wp2
                go_meet
                case rel => exact HRel.out _ _ _ F7.out
              · go_simp
                refine hK.out _ _ (HS.out _ ((kD.alloc _).alloc _)) ?_
                try simp only [Act.put, List.setIfInBounds_toArray, List.set_cons_zero, List.set_cons_succ]
                clear hK K
                refine las.each (rs := [8]) (by kernel_rfl) rfl ?_
                refine las.Each.cons rfl (fun K hK => ?_) las.Each.nil
                refine step_fresh rfl (.tmp 54) (.tmp 60) 30 rfl 37 i0 bz 2 32 Try.underlying30 hi0 hz0 hz1 hz2 rfl (by decide) (.slice (some ⟨wD.heap.size, 0, none⟩) 0 0) 0 [] (by simp [Act.eval, Act.put]) (Fresh.made 37 2 kD ((Chg.refl no _).alloc _)) _ (.slice a0 n n) n A (by simp [Act.eval, Act.put]) (HFr.out _ ((kD.alloc _).alloc _)) HLa.out.1 HLa.out.2 n (Nat.zero_add n) hPm hPb ?_
                intro b5 c5 w5' F5 G5
                have g5 : w5'.heap[wD.heap.size + 1]? = some (.cells #[.int .i64 id, .slice a2 37 c2] 37 (0, 0)) := G5.out.heap (heap_two wD _ _).2 (by simp [Value.ownBlock])
                refine hK.out _ _ (HS.out _ F5.out.2) ?_
                simp only [Act.put, List.setIfInBounds_toArray, List.set_cons_zero, List.set_cons_succ]
                clear hK K
                refine las.each (rs := [11]) (by kernel_rfl) rfl ?_
                refine las.Each.cons rfl (fun K hK => ?_) las.Each.nil
                refine step_fresh rfl (.tmp 61) (.tmp 63) 30 rfl 37 i0 bz 2 32 Try.underlying30 hi0 hz0 hz1 hz2 rfl (by decide) (.slice b5 n c5) n _ (by simp [Act.eval, Act.put]) F5.out _ (.slice (some ⟨wD.heap.size + 1, 0, none⟩) 1 1) 1 [.int .i64 id, .slice a2 37 c2] (by simp [Act.eval, Act.put]) (HX.out _ _ g5) rfl (one_b _ _ _ _) (n + 1) rfl hP1m hP1b ?_
                intro b6 c6 w6 F6 _
                refine hK.out _ _ (HS.out _ F6.out.2) ?_
                simp only [Act.put, List.setIfInBounds_toArray, List.set_cons_zero, List.set_cons_succ]
                clear hK K
                refine las.each (rs := [18]) (by kernel_rfl) rfl ?_
                refine las.Each.cons rfl (fun K hK => ?_) las.Each.nil
                refine step_fresh rfl (.tmp 64) (.tmp 70) 30 rfl 37 i0 bz 2 32 Try.underlying30 hi0 hz0 hz1 hz2 rfl (by decide) (.slice b6 (n + 1) c6) (n + 1) _ (by simp [Act.eval, Act.put]) F6.out _ (.slice a0 0 0) (n - n) U (by simp [Act.eval, Act.put]) (HRe2.out _ F6.out.2) HLb.out.1 HLb.out.2 (n + 1) hPN1 hNm hNb ?_
                intro b7 c7 w7 F7 _
                refine hK.out _ _ (HS.out _ F7.out.2) ?_
                simp only [Act.put, List.setIfInBounds_toArray, List.set_cons_zero, List.set_cons_succ]
                clear hK K
                obtain ⟨v0, v1, v2, v3, v4, v5, v6⟩ := HPC.out w7 F7.out.2
                have hS7 := HS.out _ F7.out.2
                refine las.take (i := 19) 12 ?_ rfl (by kernel_rfl) (by kernel_rfl) (by kernel_rfl) (by kernel_rfl) (by kernel_rfl) (fun _ _ _ h => h) (by rfl) ?_ hS7 ?_
                rotate_left
                · intro wS hSw
                  try dsimp only at hSw
                  first | (go_simp; done) | (go_simp; rfl)
                simp only [Act.put, List.setIfInBounds_toArray, List.set_cons_zero, List.set_cons_succ]
                refine las.take (i := 20) 12 ?_ rfl (by kernel_rfl) (by kernel_rfl) (by kernel_rfl) (by kernel_rfl) (by kernel_rfl) (fun _ _ _ h => h) (by rfl) ?_ hS7 ?_
                rotate_left
                · intro wS hSw
                  try dsimp only at hSw
                  first | (go_simp; done) | (go_simp; rfl)
                simp only [Act.put, List.setIfInBounds_toArray, List.set_cons_zero, List.set_cons_succ]
                refine las.each (rs := [21]) (by kernel_rfl) rfl ?_
                refine las.Each.last rfl (by kernel_rfl) (fun K hK => ?_)
                go_simp
                refine hK.out _ _ ?_
                try simp only [Act.put, List.setIfInBounds_toArray, List.set_cons_zero, List.set_cons_succ]
                clear hK K
                refine las.done (by kernel_rfl) ?_ _
                go_wp2
                go_meet
                case rel => exact HRel.out _ _ _ F7.out
            · go_simp
              refine hK.out _ _ (HS.out _ (kD.alloc _)) ?_
              try simp only [Act.put, List.setIfInBounds_toArray, List.set_cons_zero, List.set_cons_succ]
              clear hK K
              refine las.each (rs := [1]) (by kernel_rfl) rfl ?_
              refine las.Each.cons rfl (fun K hK => ?_) las.Each.nil
              go_simp
              refine hK.out _ _ (HS.out _ ((kD.alloc _).alloc _)) ?_
              try simp only [Act.put, List.setIfInBounds_toArray, List.set_cons_zero, List.set_cons_succ]
              clear hK K
              refine las.each (rs := [8]) (by kernel_rfl) rfl ?_
              refine las.Each.cons rfl (fun K hK => ?_) las.Each.nil
              have FM : Fresh 37 2 wB ((wD.alloc (.cells #[.int .i64 id, .slice a2 37 c2] 37)).alloc (.cells #[] 37)) (.slice (some ⟨wD.heap.size + 1, 0, none⟩) 0 0) 0 [] := by
                have := Fresh.made 37 2 (kD.alloc (.cells #[.int .i64 id, .slice a2 37 c2] 37)) (Chg.refl no ((wD.alloc (.cells #[.int .i64 id, .slice a2 37 c2] 37)).alloc (.cells #[] 37)))
                rwa [show (wD.alloc (.cells #[.int .i64 id, .slice a2 37 c2] 37)).heap.size = wD.heap.size + 1 by simp] at this
              refine step_fresh rfl (.tmp 54) (.tmp 60) 30 rfl 37 i0 bz 2 32 Try.underlying30 hi0 hz0 hz1 hz2 rfl (by decide) (.slice (some ⟨wD.heap.size + 1, 0, none⟩) 0 0) 0 [] (by simp [Act.eval, Act.put]) FM _ (.slice a0 n n) n A (by simp [Act.eval, Act.put]) (HFr.out _ ((kD.alloc _).alloc _)) HLa.out.1 HLa.out.2 n (Nat.zero_add n) hPm hPb ?_
              intro b5 c5 w5' F5 G5
              have g5 : w5'.heap[wD.heap.size]? = some (.cells #[.int .i64 id, .slice a2 37 c2] 37 (0, 0)) := G5.out.heap (heap_two wD _ _).1 (by simp [Value.ownBlock])
              refine hK.out _ _ (HS.out _ F5.out.2) ?_
              simp only [Act.put, List.setIfInBounds_toArray, List.set_cons_zero, List.set_cons_succ]
              clear hK K
              refine las.each (rs := [11]) (by kernel_rfl) rfl ?_
              refine las.Each.cons rfl (fun K hK => ?_) las.Each.nil
              refine step_fresh rfl (.tmp 61) (.tmp 63) 30 rfl 37 i0 bz 2 32 Try.underlying30 hi0 hz0 hz1 hz2 rfl (by decide) (.slice b5 n c5) n _ (by simp [Act.eval, Act.put]) F5.out _ (.slice (some ⟨wD.heap.size, 0, none⟩) 1 1) 1 [.int .i64 id, .slice a2 37 c2] (by simp [Act.eval, Act.put]) (HX.out _ _ g5) rfl (one_b _ _ _ _) (n + 1) rfl hP1m hP1b ?_
              intro b6 c6 w6 F6 _
              refine hK.out _ _ (HS.out _ F6.out.2) ?_
              simp only [Act.put, List.setIfInBounds_toArray, List.set_cons_zero, List.set_cons_succ]
              clear hK K
              refine las.each (rs := [18]) (by kernel_rfl) rfl ?_
              refine las.Each.cons rfl (fun K hK => ?_) las.Each.nil
              refine step_fresh rfl (.tmp 64) (.tmp 70) 30 rfl 37 i0 bz 2 32 Try.underlying30 hi0 hz0 hz1 hz2 rfl (by decide) (.slice b6 (n + 1) c6) (n + 1) _ (by simp [Act.eval, Act.put]) F6.out _ (.slice a0 0 0) (n - n) U (by simp [Act.eval, Act.put]) (HRe2.out _ F6.out.2) HLb.out.1 HLb.out.2 (n + 1) hPN1 hNm hNb ?_
              intro b7 c7 w7 F7 _
              refine hK.out _ _ (HS.out _ F7.out.2) ?_
              simp only [Act.put, List.setIfInBounds_toArray, List.set_cons_zero, List.set_cons_succ]
              clear hK K
              obtain ⟨v0, v1, v2, v3, v4, v5, v6⟩ := HPC.out w7 F7.out.2
              have hS7 := HS.out _ F7.out.2
              refine las.take (i := 19) 12 ?_ rfl (by kernel_rfl) (by kernel_rfl) (by kernel_rfl) (by kernel_rfl) (by kernel_rfl) (fun _ _ _ h => h) (by rfl) ?_ hS7 ?_
              rotate_left
              · intro wS hSw
                try dsimp only at hSw
                first | (go_simp; done) | (go_simp; rfl)
              simp only [Act.put, List.setIfInBounds_toArray, List.set_cons_zero, List.set_cons_succ]
              refine las.take (i := 20) 12 ?_ rfl (by kernel_rfl) (by kernel_rfl) (by kernel_rfl) (by kernel_rfl) (by kernel_rfl) (fun _ _ _ h => h) (by rfl) ?_ hS7 ?_
              rotate_left
              · intro wS hSw
                try dsimp only at hSw
                first | (go_simp; done) | (go_simp; rfl)
              simp only [Act.put, List.setIfInBounds_toArray, List.set_cons_zero, List.set_cons_succ]
              refine las.each (rs := [21]) (by kernel_rfl) rfl ?_
              refine las.Each.last rfl (by kernel_rfl) (fun K hK => ?_)
              go_simp
              refine hK.out _ _ ?_
              try simp only [Act.put, List.setIfInBounds_toArray, List.set_cons_zero, List.set_cons_succ]
              clear hK K
              refine las.done (by kernel_rfl) ?_ _
              go_wp2
              go_meet
              case rel => exact HRel.out _ _ _ F7.out
        case rest =>
          obtain ⟨b8, c8, w8, f8, hb8, k8⟩ := hcut
          obtain ⟨y0, y1⟩ := row_cell (xs := [_, _]) hb8 0 _ rfl
          obtain ⟨y2, y3⟩ := row_cell (xs := [_, _]) hb8 1 _ rfl
          have y4 := lt_of_block hb8
          obtain ⟨M, hM, hM2⟩ : ∃ M : Nat, max m (n + 1) = M ∧ ((M : Nat) : Int) = max (m : Int) ((n : Int) + 1) := ⟨max m (n + 1), rfl, by omega⟩
          have hM3 : (if (m : Int) < (n : Int) + 1 then (n : Int) + 1 else (m : Int)) = (M : Int) := by rw [hM2]; split <;> omega
          have HE7 : Hid (St 32 37 (Wid F w (wc.setCell ⟨p, 1, none⟩ (.int .i64 (M : Int))).drew) p (putL (abs xs) (id, zs)) (max m (putL (abs xs) (id, zs)).length) (wc.setCell ⟨p, 1, none⟩ (.int .i64 (M : Int))).drew ∧ Chg F w (wc.setCell ⟨p, 1, none⟩ (.int .i64 (M : Int))).drew) := by
            obtain ⟨q1, q2, q3, q4, q5⟩ := HOK.out
            have hl := put_len (L := abs xs) (id, zs)
            rw [HB.out, abs_len, HL.out] at hl
            simp only [Bool.false_eq_true, if_false] at hl
            have ha : abs (xs.take P ++ ⟨id, .slice a2 37 c2, zs⟩ :: xs.drop P) = putL (abs xs) (id, zs) := by
              rw [abs_ins]
              unfold putL
              rw [HB.out, HP.out]
              rfl
            have hlen : (xs.take P ++ (⟨id, .slice a2 37 c2, zs⟩ : BV) :: xs.drop P).length = n + 1 := by
              rw [← abs_len, ha, hl]
            have hfl : (xs.take P ++ (⟨id, .slice a2 37 c2, zs⟩ : BV) :: xs.drop P).flatMap fb = A ++ ([.int .i64 id, .slice a2 37 c2] ++ U) := by
              rw [← HA.out, ← HU.out]
              simp [fb]
            have f9 : Fresh 37 2 wB w8 (.slice b8 (n + 1) c8) (xs.take P ++ (⟨id, .slice a2 37 c2, zs⟩ : BV) :: xs.drop P).length ((xs.take P ++ (⟨id, .slice a2 37 c2, zs⟩ : BV) :: xs.drop P).flatMap fb) := by
              rw [hlen, hfl]
              exact f8
            have k9 : Chg (fun k => k = p) w8 (wc.setCell ⟨p, 1, none⟩ (.int .i64 (M : Int))).drew := (k8.setCell ⟨p, 1, none⟩ (.int .i64 (M : Int)) (.inl rfl)).drew
            have hb9 : (wc.setCell ⟨p, 1, none⟩ (.int .i64 (M : Int))).drew.heap[p]? = some (.cells #[.slice b8 (n + 1) c8, .int .i64 (M : Int)] 32 (0, 0)) := by
              have := row_set (xs := [_, _]) hb8 1 (.int .i64 (M : Int))
              exact this
            have S9 := HSB.out.anew (N := Anew w wB) (fun k hk => ⟨fun e => by have := H1.out.lt k e; have := hk.1; omega, hk.2⟩) f9 (fun x hx => by
              rcases List.mem_append.1 hx with hx | hx
              · exact .inl (List.mem_of_mem_take hx)
              · rcases List.mem_cons.1 hx with rfl | hx
                · exact .inr ⟨L4B.out, q4⟩
                · exact .inl (List.mem_of_mem_drop hx)) hb9 k9
            have z0 := HKB.out.size
            have z1 := f8.2.size
            have z2 := k9.size
            have S10 := S9.wide (G := Wid F w (wc.setCell ⟨p, 1, none⟩ (.int .i64 (M : Int))).drew) (fun k hk => by
              rcases hk with hk | hk | hk
              · exact .inl hk
              · exact .inr ⟨hk.1, by have := hk.2; omega⟩
              · have := f8.1.lt k hk
                exact .inr ⟨by omega, by omega⟩) (fun k hk => by
              rcases hk with hk | hk
              · have := H1.out.lt k hk
                omega
              · exact hk.2)
            have ho := q1.put q5
            have hbd := ho.len
            have hm : max m (putL (abs xs) (id, zs)).length = M := by rw [hl]; exact hM
            rw [hm]
            exact ⟨⟨_, _, _, S10, ha, ho, by omega, by omega⟩, ((HKB.out.then f8.2).of_no F).trans k9 (fun k hk => .inl (by subst hk; exact H1.out.fp))⟩
          clear hM hM2 f8 hb8 k8 HOK HP HB H1 K4 K1 L4 L4B HKB HGQ kdd HRel HM1 HM3 HFr HLa HLb HX HA HU HPC HL HSB
          go_wp2_with fail
          go_region
          all_goals
            go_wp2
            go_ret
            exact ⟨rfl, HE7.out.1, HE7.out.2⟩

end Go.Proofs.Ytedhlidmmmlemaa.st
