/-
  Proved: for every two numbers n and size and every list of operations the law CellsPlay returns true and leaves its arguments as they were; no condition.
-/
import Derived.Test.YtjmdjadnllakpaaPlayS
import Derived.Test.YtjmdjadnllakpaaFar
import Derived.Deep.CutBlock
import Derived.Below
namespace Go.Proofs.Ytjmdjadnllakpaa.cellsPlay
open Go.ChangeShapes Go.WideShapes Go.ChangeAt Go.RowKit Go.Proofs.Ytjmdjadnllakpaa.hp Go.Proofs.Ytjmdjadnllakpaa.md Go.Proofs.Ytjmdjadnllakpaa.st Go.Proofs.Ytjmdjadnllakpaa.pl
set_option linter.unusedVariables false

theorem ops_later {w w' : World} {a : Option Addr} {len : Nat} {O : Nat → OpA} (h : OpsAt w a len O) (c : Chg no w w') : OpsAt w' a len O := by
  intro i hi
  obtain ⟨x, rfl, hx, e0, e1, e2, e3, l2, l3, hw⟩ := h i hi
  have ho : ∀ j, Old w j → Old w' j := fun j hj => Nat.lt_of_lt_of_le hj c.size
  exact ⟨x, rfl, ho _ hx, c.cell e0 id, c.cell e1 id, c.cell e2 id, c.cell e3 id, (l2.chg c (fun _ _ h => h)).mono ho, (l3.chg c (fun _ _ h => h)).mono ho, hw⟩

set_option maxRecDepth 100000 in
set_option maxHeartbeats 2000000 in
theorem early (w : World) (a0 a1 : Int) (a2 : Option Addr) (len2 cap2 : Nat) (O : Nat → OpA) (A2 : OpsAt w a2 len2 O) (hh : a0 < 1 ∨ 60 < a0 ∨ a1 < 1 ∨ 60 < a1) :
    Calls Try.prog 3 #[.int .i64 a0, .int .i64 a1, .slice a2 len2 cap2] w fun e w' => e = .returned (.bool true) ∧ Below w.heap.size w w' := by
  have FW : ∀ w', Chg no w w' → Calls Try.prog 9 #[.slice a2 len2 cap2] w' (FewRes len2 O w') := fun w' c => few_any (ops_later A2 c) cap2
  have hc : (60 < a0) ∨ (a0 ≤ 60 ∧ 60 < a1) ∨ (a0 ≤ 60 ∧ a1 ≤ 60 ∧ (a0 < 1 ∨ a1 < 1)) := by omega
  clear hh A2
  rcases hc with h1 | ⟨h1, h2⟩ | ⟨h1, h2, h3⟩
  · go_enter Try.func3, Try.ntmps3
    go_wp2_with fail
    refine (first_any _).mono ?_
    rintro e w1 ⟨rfl, k1⟩
    go_wp2_with fail
    refine (first_any _).mono ?_
    rintro e w3 ⟨rfl, k3⟩
    go_wp2
    go_ret
    exact ⟨rfl, (k1.then k3).below⟩
  · go_enter Try.func3, Try.ntmps3
    go_wp2_with fail
    refine (first_any _).mono ?_
    rintro e w1 ⟨rfl, k1⟩
    go_wp2_with fail
    refine (first_any _).mono ?_
    rintro e w3 ⟨rfl, k3⟩
    go_wp2
    go_ret
    exact ⟨rfl, (k1.then k3).below⟩
  · have H3 : Hid (a0 < 1 ∨ 65536 < a0 ∨ a1 < 1 ∨ 4096 < a1) := by show a0 < 1 ∨ _; omega
    clear h3
    go_enter Try.func3, Try.ntmps3
    go_wp2_with fail
    refine (first_any _).mono ?_
    rintro e w1 ⟨rfl, k1⟩
    go_wp2_with fail
    refine (FW _ k1).mono ?_
    rintro e w2 ⟨b2, rfl, hb2, k2⟩
    clear hb2
    rcases b2 with _ | _
    · go_wp2_with fail
      refine (first_any _).mono ?_
      rintro e w3 ⟨rfl, k3⟩
      go_wp2
      go_ret
      exact ⟨rfl, ((k1.then k2).then k3).below⟩
    · go_wp2_with fail
      refine (new_out a0 a1 H3.out).mono ?_
      rintro e w3 ⟨rfl, rfl⟩
      go_wp2_with fail
      refine (rnew_out a0 a1 H3.out).mono ?_
      rintro e w4 ⟨rfl, rfl⟩
      go_wp2_with fail
      refine (first_any _).mono ?_
      rintro e w5 ⟨rfl, k5⟩
      go_wp2
      go_ret
      exact ⟨rfl, ((k1.then k2).then k5).below⟩

theorem start_both {w w2 w3 w4 : World} {p q n sz : Nat} (K2 : Chg no w w2) (s3 : St w3 p (fun k => w2.heap.size ≤ k ∧ k < w3.heap.size) (Mod.new n sz)) (k3 : Chg no w2 w3) (r4 : Rt w4 q (fun k => w3.heap.size ≤ k ∧ k < w4.heap.size) (Mod.new n sz)) (k4 : Chg no w3 w4) :
    DD w p q n sz 0 w4 := by
  have z2 := K2.size
  have z3 := k3.size
  exact ⟨_, _, _, _, s3.same k4, r4, ⟨rfl, rfl, rfl, rfl, rfl, rfl, rfl⟩, fun j h1 h2 => by omega, fun j hj => by omega, fun j hj => by omega, by simp [Mod.new], rfl, Nat.le_refl _, by simp [Mod.new], (K2.then k3).then k4⟩

theorem dpeek {w X : World} {p q n sz k : Nat} {F G : Nat → Prop} {m m' : Mod} (h : D w p q n sz k F G m m' X) (hk : k ≤ 1000) (A : Int) :
    ∃ (P1 : Value → World → Prop), Calls Try.prog 32 #[.pointer (some ⟨p, 0, none⟩), .int .i64 A] X (fun e w1 => ∃ x l c, e = .returned (.slice x l c) ∧ P1 (.slice x l c) w1) ∧
    ∀ u w1, P1 u w1 → Calls Try.prog 33 #[.pointer (some ⟨q, 0, none⟩), .int .i64 A] w1 (fun e w2 => ∃ x l c, e = .returned (.slice x l c) ∧ DD w p q n sz k w2 ∧
      Calls Try.prog 14 #[u, .slice x l c] w2 fun e w3 => e = .returned (.bool true) ∧ w3 = w2) := by
  have hvl := h.like.vlen
  have hsl := h.like.sz
  have hok := h.ops
  by_cases hr : 0 ≤ A ∧ A < m.V.length
  · obtain ⟨a, rfl⟩ := Int.eq_ofNat_of_zero_le hr.1
    refine ⟨fun u w1 => u = .slice (some ⟨X.heap.size, 0, none⟩) m.sz m.sz ∧ w1.heap[X.heap.size]? = some (.cells ((m.now.getD a dC).2.map (Value.int .u8)).toArray 5 (0, 0)) ∧ Chg no X w1, (peek_in h.st a (by omega)).mono ?_, ?_⟩
    · rintro e w1 ⟨rfl, g1, c1⟩
      exact ⟨_, _, _, rfl, rfl, g1, c1⟩
    rintro u w1 ⟨rfl, g1, c1⟩
    refine (rpeek_in (h.rt.same c1) (by rw [← h.like.ops]; omega) a (by omega)).mono ?_
    rintro e w2 ⟨rfl, g2, c2⟩
    rw [← h.like.now a] at g2
    refine ⟨_, _, _, rfl, ⟨_, _, _, _, (h.same c1).same c2⟩, ?_⟩
    have hlen : (m.now.getD a dC).2.length = m.sz := by
      obtain ⟨gc, I, vf, vk, hs⟩ := h.st
      exact (hs.now_byt a (by omega)).1
    have e1 := lies_block (c2.heap g1 id) m.sz
    have e2 := lies_block g2 m'.sz
    rw [List.length_map, hlen] at e1 e2
    rw [← hsl] at e2 ⊢
    exact bytes_same e1 e2
  · refine ⟨fun u w1 => u = .slice none 0 0 ∧ w1 = X, (peek_out h.st A hr).mono ?_, ?_⟩
    · rintro e w1 ⟨rfl, rfl⟩
      exact ⟨_, _, _, rfl, rfl, rfl⟩
    rintro u w1 ⟨rfl, rfl⟩
    refine (rpeek_out h.rt A (by omega)).mono ?_
    rintro e w2 ⟨rfl, rfl⟩
    exact ⟨_, _, _, rfl, ⟨_, _, _, _, h⟩, bytes_same (J := no) (K := no) (zs := []) (.inl ⟨rfl, rfl⟩) (.inl ⟨rfl, rfl⟩)⟩

set_option maxRecDepth 100000 in
set_option maxHeartbeats 16000000 in
theorem late (w : World) (n sz : Nat) (a2 : Option Addr) (len2 cap2 : Nat) (O : Nat → OpA) (A2 : OpsAt w a2 len2 O) (h1 : 1 ≤ n) (h2 : n ≤ 60) (h3 : 1 ≤ sz) (h4 : sz ≤ 60) :
    Calls Try.prog 3 #[.int .i64 n, .int .i64 sz, .slice a2 len2 cap2] w fun e w' => e = .returned (.bool true) ∧ Below w.heap.size w w' := by
  have i1 : (1 : Int) ≤ n := by omega
  have i2 : (n : Int) ≤ 60 := by omega
  have i3 : (1 : Int) ≤ sz := by omega
  have i4 : (sz : Int) ≤ 60 := by omega
  have FW : ∀ w', Chg no w w' → Calls Try.prog 9 #[.slice a2 len2 cap2] w' (FewRes len2 O w') := fun w' c => few_any (ops_later A2 c) cap2
  have HO : Hid (OpsAt w a2 len2 O) := A2
  clear A2
  go_enter Try.func3, Try.ntmps3
  go_wp2_with fail
  refine (first_any _).mono ?_
  rintro e w1 ⟨rfl, k1⟩
  go_wp2_with fail
  refine (FW _ k1).mono ?_
  rintro e w2 ⟨b2, rfl, hb2, k2⟩
  rcases b2 with _ | _
  · clear hb2
    go_wp2_with fail
    refine (first_any _).mono ?_
    rintro e w3 ⟨rfl, k3⟩
    go_wp2
    go_ret
    exact ⟨rfl, ((k1.then k2).then k3).below⟩
  have HF : Hid (FewIs len2 O) := hb2 rfl
  have K2 := k1.then k2
  clear hb2 FW k1 k2
  go_wp2_with fail
  refine (new_in n sz (by omega) (by omega) (by omega) (by omega)).mono ?_
  rintro e w3 ⟨p, rfl, s3, k3⟩
  go_wp2_with fail
  refine (rnew_in n sz (by omega) (by omega) (by omega) (by omega)).mono ?_
  rintro e w4 ⟨q, rfl, r4, k4⟩
  have D4 : DD w p q n sz 0 w4 := start_both K2 s3 k3 r4 k4
  clear s3 r4 k3 k4 K2
  go_wp2_with fail
  go_loopw [11] (fun i wr => ∃ j : Nat, j ≤ len2 ∧ i = .int .i64 (j : Int) ∧ DD w p q n sz j wr) (fun i _ => len2 - (intOf i).toNat)
  case atStart => exact ⟨0, by omega, rfl, D4⟩
  case round =>
    clear D4
    obtain ⟨j, hj, rfl, F, G, m, m', hD⟩ := hrel
    by_cases hjn : j < len2
    · have hji : (j : Int) < len2 := by omega
      have hjb : j ≤ 200 := by have := HF.out.1; omega
      obtain ⟨x, ab, cb, ak, ck, rfl, hb, hk', e0, e1, e2, e3, l2, l3⟩ := HO.out.at hD.chg j hjn
      have hbl : (O j).bs.length ≤ 20000 := HF.out.2 j hjn
      have hwf : (Lit.int .i64 (O j).addr).wf = true := by obtain ⟨x', hx', _, _, _, _, _, _, _, hw⟩ := HO.out j hjn; exact hw
      obtain ⟨o, ho⟩ : ∃ o, O j = o := ⟨_, rfl⟩
      rw [ho] at e0 e1 e2 e3 l2 l3 hbl hwf
      obtain ⟨kind, A, bv, zs, kv, bs⟩ := o
      simp only at e0 e1 e2 e3 l2 l3 hbl hwf
      clear hb hk' ho
      go_upto_block 2 with fail
      have hDX := hD.same ((Chg.refl no wr).alloc (.cells #[.int .i64 kind, .int .i64 A, .slice ab zs.length cb, .slice ak bs.length ck] 35))
      have hg : ¬ F wr.heap.size := fun e => by have := hD.st.lt _ e; omega
      have hG : (wr.alloc (.cells #[.int .i64 kind, .int .i64 A, .slice ab zs.length cb, .slice ak bs.length ck] 35)).heap[wr.heap.size]? = some (.cells #[.int .i64 kind, .int .i64 A, .slice ab zs.length cb, .slice ak bs.length ck] 35 (0, 0)) := heap_alloc_new _ _
      have y1 := (row_cell (xs := [_, _, _, _]) hG 1 _ rfl).1
      have y2 := (row_cell (xs := [_, _, _, _]) hG 2 _ rfl).1
      have y3 := (row_cell (xs := [_, _, _, _]) hG 3 _ rfl).1
      have hA : A ≤ 9223372036854775807 := (bounds_i64 hwf).2
      have hk1 : j ≤ 1000 := by omega
      have l2X := l2.chg ((Chg.refl no wr).alloc (.cells #[.int .i64 kind, .int .i64 A, .slice ab zs.length cb, .slice ak bs.length ck] 35)) (fun _ _ h => h)
      have l3X := l3.chg ((Chg.refl no wr).alloc (.cells #[.int .i64 kind, .int .i64 A, .slice ab zs.length cb, .slice ak bs.length ck] 35)) (fun _ _ h => h)
      have HR := dread hDX hg hk1 A
      have hDW := hDX.same (Chg.refl no _).drew
      have HW := dwrite hDW hg hk1 A ab cb zs (l2X.chg (Chg.refl no _).drew (fun _ _ h => h))
      have HY := dsync hDX hk1
      have HM := darm hDW hg A hA (.slice ak bs.length ck) bs (l3X.chg (Chg.refl no _).drew (fun _ _ h => h)) hbl
      have HC := dcrash hDW hg hk1 ak ck bs (l3X.chg (Chg.refl no _).drew (fun _ _ h => h)) hbl
      have HB := dreboot hDX
      have HDX : Hid (DD w p q n sz (j + 1) (wr.alloc (.cells #[.int .i64 kind, .int .i64 A, .slice ab zs.length cb, .slice ak bs.length ck] 35))) := ⟨_, _, _, _, hDX.more (by omega)⟩
      have hzD : Hid (∀ w2, DD w p q n sz j w2 → DD w p q n sz (j + 1) w2) := fun w2 hd => by obtain ⟨F', G', a', b', hd⟩ := hd; exact ⟨F', G', a', b', hd.more (by omega)⟩
      clear hD hDX hDW hG l2 l3 l2X l3X hwf hA e0 e1 e2 e3
      go_cut [13] from 68 to 148 (fun ok wc => ok = .bool true ∧ DD w p q n sz (j + 1) wc)
      case first =>
        by_cases hk0 : kind = 0
        · subst hk0
          obtain ⟨r, P1, C1, C2⟩ := HR
          clear HW HY HM HC HB
          go_wp2_with fail
          refine C1.mono ?_
          rintro e w5 ⟨x5, l5, c5, rfl, hP⟩
          obtain ⟨hst, C3⟩ := C2 _ _ hP
          have z1 := hst 1 _ y1
          clear C1 C2 hst hP
          go_wp2_with fail
          refine C3.mono ?_
          rintro e w6 ⟨x6, l6, c6, rfl, hDD, B⟩
          go_wp2_with fail
          refine B.mono ?_
          rintro e w7 ⟨rfl, rfl⟩
          clear C3 B
          go_wp2
          go_meet
          case rel => exact ⟨rfl, hDD⟩
        by_cases hk2 : kind = 2
        · subst hk2
          obtain ⟨r, P1, C1, C2⟩ := HY
          clear HR HW HM HC HB
          go_wp2_with fail
          refine C1.mono ?_
          rintro e w5 ⟨rfl, hP⟩
          have C3 := C2 _ hP
          clear C1 C2 hP
          go_wp2_with fail
          refine C3.mono ?_
          rintro e w6 ⟨rfl, hDD⟩
          clear C3
          go_wp2
          go_meet
          case rel => exact ⟨rfl, hDD⟩
        by_cases hk5 : kind = 5
        · subst hk5
          obtain ⟨r, P1, C1, C2⟩ := HB
          clear HR HW HM HC HY
          go_wp2_with fail
          refine C1.mono ?_
          rintro e w5 ⟨rfl, hP⟩
          have C3 := C2 _ hP
          clear C1 C2 hP
          go_wp2_with fail
          refine C3.mono ?_
          rintro e w6 ⟨rfl, hDD⟩
          clear C3
          go_wp2
          go_meet
          case rel => exact ⟨rfl, hzD.out _ hDD⟩
        by_cases hk1' : kind = 1
        · subst hk1'
          obtain ⟨r, P1, C1, C2⟩ := HW
          clear HR HY HM HC HB
          go_wp2_with fail
          obtain ⟨pG, hpG⟩ : ∃ pG : World → Prop, ∀ w', pG w' ↔ (w'.cell? ⟨wr.heap.size, 1, none⟩ = some (.int .i64 A) ∧ w'.cell? ⟨wr.heap.size, 2, none⟩ = some (.slice ab zs.length cb) ∧ w'.cell? ⟨wr.heap.size, 3, none⟩ = some (.slice ak bs.length ck)) := ⟨_, fun _ => Iff.rfl⟩
          obtain ⟨pT, hpT⟩ : ∃ pT : World → Prop, ∀ w', pT w' ↔ True := ⟨_, fun _ => Iff.rfl⟩
          have hx1 : ∀ x : far.InC pG, x.w.cell? ⟨wr.heap.size, 1, none⟩ = some (.int .i64 A) := fun x => ((hpG _).1 x.h).1
          have hx2 : ∀ x : far.InC pG, x.w.cell? ⟨wr.heap.size, 2, none⟩ = some (.slice ab zs.length cb) := fun x => ((hpG _).1 x.h).2.1
          have hx3 : ∀ x : far.InC pG, x.w.cell? ⟨wr.heap.size, 3, none⟩ = some (.slice ak bs.length ck) := fun x => ((hpG _).1 x.h).2.2
          have iG : Nonempty (far.InC pG) := ⟨⟨(wr.alloc (.cells #[.int .i64 1, .int .i64 A, .slice ab zs.length cb, .slice ak bs.length ck] 35)), (hpG _).2 ⟨y1, y2, y3⟩⟩⟩
          have iT : Nonempty (far.InC pT) := ⟨⟨wr, (hpT _).2 trivial⟩⟩
          have HpG : Hid (∀ w', pG w' ↔ (w'.cell? ⟨wr.heap.size, 1, none⟩ = some (.int .i64 A) ∧ w'.cell? ⟨wr.heap.size, 2, none⟩ = some (.slice ab zs.length cb) ∧ w'.cell? ⟨wr.heap.size, 3, none⟩ = some (.slice ak bs.length ck))) := hpG
          have HpT : Hid (∀ w', pT w' ↔ True) := hpT
          have HY : Hid (pG (wr.alloc (.cells #[.int .i64 1, .int .i64 A, .slice ab zs.length cb, .slice ak bs.length ck] 35)).drew) := (hpG _).2 ⟨y1, y2, y3⟩
          clear hpG hpT
          refine far.region_farM (fun κ w' => κ ≤ 1 → pG w') [5, 11] (by kernel_rfl) (by kernel_rfl) (fun _ => HY.out) ?_
          intro L e1 e2 e3
          refine far.farO_stretch pG 5 0 0 e1 e2 e3 (by kernel_rfl) (by kernel_rfl) (fun κ w' hk1 hk2 hC => hC (by omega)) ?_
          simp only [List.take_succ_cons, List.take_zero, List.drop_succ_cons, List.drop_zero, Nat.reduceAdd]
          repeat (go_big_quiet_step (fail))
          refine wpQuiet_nil ?_
          refine far.farO_enter e1 e2 0 rfl rfl 15 #[.pointer (some ⟨p, 0, none⟩), .int .i64 A, .slice ab zs.length cb] (by kernel_rfl) (by kernel_rfl) ?_
          refine C1.mono ?_
          rintro e w5 ⟨rfl, hP⟩
          obtain ⟨hst, C3⟩ := C2 _ hP
          have z1 := hst 1 _ y1
          have z2 := hst 2 _ y2
          have z3 := hst 3 _ y3
          refine ⟨_, rfl, fun _ => (HpG.out _).2 ⟨z1, z2, z3⟩, ?_⟩
          simp only [Act.put, List.setIfInBounds_toArray, List.set_cons_succ, List.set_cons_zero, Nat.reduceAdd]
          refine far.farO_stretch pG 5 0 1 e1 e2 e3 (by kernel_rfl) (by kernel_rfl) (fun κ w' hk1 hk2 hC => hC (by omega)) ?_
          simp only [List.take_succ_cons, List.take_zero, List.drop_succ_cons, List.drop_zero, Nat.reduceAdd]
          repeat (go_big_quiet_step (fail))
          refine wpQuiet_nil ?_
          refine far.farO_enter e1 e2 1 rfl rfl 16 #[.pointer (some ⟨q, 0, none⟩), .int .i64 A, .slice ab zs.length cb] (by kernel_rfl) (by kernel_rfl) ?_
          refine C3.mono ?_
          rintro e w6 ⟨rfl, hDD⟩
          refine ⟨_, rfl, fun h => by omega, ?_⟩
          simp only [Act.put, List.setIfInBounds_toArray, List.set_cons_succ, List.set_cons_zero, Nat.reduceAdd]
          refine far.farO_stretch pT 2 2 2 e1 e2 e3 (by kernel_rfl) (by kernel_rfl) (fun κ w' hk1 hk2 hC => (HpT.out _).2 trivial) ?_
          simp only [List.take_succ_cons, List.take_zero, List.drop_succ_cons, List.drop_zero, Nat.reduceAdd]
          repeat (go_big_quiet_step (fail))
          refine wpQuiet_nil ?_
          refine far.farO_nil ?_
          clear C1 C2 C3 hst hP hx1 hx2 hx3
          go_wp2
          go_meet
          case rel => exact ⟨rfl, hDD⟩
        by_cases hk3 : kind = 3
        · subst hk3
          obtain ⟨r, P1, C1, C2⟩ := HM
          clear HR HY HW HC HB
          go_wp2_with fail
          obtain ⟨pG, hpG⟩ : ∃ pG : World → Prop, ∀ w', pG w' ↔ (w'.cell? ⟨wr.heap.size, 1, none⟩ = some (.int .i64 A) ∧ w'.cell? ⟨wr.heap.size, 2, none⟩ = some (.slice ab zs.length cb) ∧ w'.cell? ⟨wr.heap.size, 3, none⟩ = some (.slice ak bs.length ck)) := ⟨_, fun _ => Iff.rfl⟩
          obtain ⟨pT, hpT⟩ : ∃ pT : World → Prop, ∀ w', pT w' ↔ True := ⟨_, fun _ => Iff.rfl⟩
          have hx1 : ∀ x : far.InC pG, x.w.cell? ⟨wr.heap.size, 1, none⟩ = some (.int .i64 A) := fun x => ((hpG _).1 x.h).1
          have hx2 : ∀ x : far.InC pG, x.w.cell? ⟨wr.heap.size, 2, none⟩ = some (.slice ab zs.length cb) := fun x => ((hpG _).1 x.h).2.1
          have hx3 : ∀ x : far.InC pG, x.w.cell? ⟨wr.heap.size, 3, none⟩ = some (.slice ak bs.length ck) := fun x => ((hpG _).1 x.h).2.2
          have iG : Nonempty (far.InC pG) := ⟨⟨(wr.alloc (.cells #[.int .i64 3, .int .i64 A, .slice ab zs.length cb, .slice ak bs.length ck] 35)), (hpG _).2 ⟨y1, y2, y3⟩⟩⟩
          have iT : Nonempty (far.InC pT) := ⟨⟨wr, (hpT _).2 trivial⟩⟩
          have HpG : Hid (∀ w', pG w' ↔ (w'.cell? ⟨wr.heap.size, 1, none⟩ = some (.int .i64 A) ∧ w'.cell? ⟨wr.heap.size, 2, none⟩ = some (.slice ab zs.length cb) ∧ w'.cell? ⟨wr.heap.size, 3, none⟩ = some (.slice ak bs.length ck))) := hpG
          have HpT : Hid (∀ w', pT w' ↔ True) := hpT
          have HY : Hid (pG (wr.alloc (.cells #[.int .i64 3, .int .i64 A, .slice ab zs.length cb, .slice ak bs.length ck] 35)).drew) := (hpG _).2 ⟨y1, y2, y3⟩
          clear hpG hpT
          refine far.region_farM (fun κ w' => κ ≤ 1 → pG w') [5, 11] (by kernel_rfl) (by kernel_rfl) (fun _ => HY.out) ?_
          intro L e1 e2 e3
          refine far.farO_stretch pG 5 0 0 e1 e2 e3 (by kernel_rfl) (by kernel_rfl) (fun κ w' hk1 hk2 hC => hC (by omega)) ?_
          simp only [List.take_succ_cons, List.take_zero, List.drop_succ_cons, List.drop_zero, Nat.reduceAdd]
          repeat (go_big_quiet_step (fail))
          refine wpQuiet_nil ?_
          refine far.farO_enter e1 e2 0 rfl rfl 19 #[.pointer (some ⟨p, 0, none⟩), .int .i64 A, .slice ak bs.length ck] (by kernel_rfl) (by kernel_rfl) ?_
          refine C1.mono ?_
          rintro e w5 ⟨rfl, hP⟩
          obtain ⟨hst, C3⟩ := C2 _ hP
          have z1 := hst 1 _ y1
          have z2 := hst 2 _ y2
          have z3 := hst 3 _ y3
          refine ⟨_, rfl, fun _ => (HpG.out _).2 ⟨z1, z2, z3⟩, ?_⟩
          simp only [Act.put, List.setIfInBounds_toArray, List.set_cons_succ, List.set_cons_zero, Nat.reduceAdd]
          refine far.farO_stretch pG 5 0 1 e1 e2 e3 (by kernel_rfl) (by kernel_rfl) (fun κ w' hk1 hk2 hC => hC (by omega)) ?_
          simp only [List.take_succ_cons, List.take_zero, List.drop_succ_cons, List.drop_zero, Nat.reduceAdd]
          repeat (go_big_quiet_step (fail))
          refine wpQuiet_nil ?_
          refine far.farO_enter e1 e2 1 rfl rfl 20 #[.pointer (some ⟨q, 0, none⟩), .int .i64 A, .slice ak bs.length ck] (by kernel_rfl) (by kernel_rfl) ?_
          refine C3.mono ?_
          rintro e w6 ⟨rfl, hDD⟩
          refine ⟨_, rfl, fun h => by omega, ?_⟩
          simp only [Act.put, List.setIfInBounds_toArray, List.set_cons_succ, List.set_cons_zero, Nat.reduceAdd]
          refine far.farO_stretch pT 2 2 2 e1 e2 e3 (by kernel_rfl) (by kernel_rfl) (fun κ w' hk1 hk2 hC => (HpT.out _).2 trivial) ?_
          simp only [List.take_succ_cons, List.take_zero, List.drop_succ_cons, List.drop_zero, Nat.reduceAdd]
          repeat (go_big_quiet_step (fail))
          refine wpQuiet_nil ?_
          refine far.farO_nil ?_
          clear C1 C2 C3 hst hP hx1 hx2 hx3
          go_wp2
          go_meet
          case rel => exact ⟨rfl, hzD.out _ hDD⟩
        by_cases hk4 : kind = 4
        · subst hk4
          obtain ⟨r, P1, C1, C2⟩ := HC
          clear HR HY HM HW HB
          go_wp2_with fail
          obtain ⟨pG, hpG⟩ : ∃ pG : World → Prop, ∀ w', pG w' ↔ (w'.cell? ⟨wr.heap.size, 1, none⟩ = some (.int .i64 A) ∧ w'.cell? ⟨wr.heap.size, 2, none⟩ = some (.slice ab zs.length cb) ∧ w'.cell? ⟨wr.heap.size, 3, none⟩ = some (.slice ak bs.length ck)) := ⟨_, fun _ => Iff.rfl⟩
          obtain ⟨pT, hpT⟩ : ∃ pT : World → Prop, ∀ w', pT w' ↔ True := ⟨_, fun _ => Iff.rfl⟩
          have hx1 : ∀ x : far.InC pG, x.w.cell? ⟨wr.heap.size, 1, none⟩ = some (.int .i64 A) := fun x => ((hpG _).1 x.h).1
          have hx2 : ∀ x : far.InC pG, x.w.cell? ⟨wr.heap.size, 2, none⟩ = some (.slice ab zs.length cb) := fun x => ((hpG _).1 x.h).2.1
          have hx3 : ∀ x : far.InC pG, x.w.cell? ⟨wr.heap.size, 3, none⟩ = some (.slice ak bs.length ck) := fun x => ((hpG _).1 x.h).2.2
          have iG : Nonempty (far.InC pG) := ⟨⟨(wr.alloc (.cells #[.int .i64 4, .int .i64 A, .slice ab zs.length cb, .slice ak bs.length ck] 35)), (hpG _).2 ⟨y1, y2, y3⟩⟩⟩
          have iT : Nonempty (far.InC pT) := ⟨⟨wr, (hpT _).2 trivial⟩⟩
          have HpG : Hid (∀ w', pG w' ↔ (w'.cell? ⟨wr.heap.size, 1, none⟩ = some (.int .i64 A) ∧ w'.cell? ⟨wr.heap.size, 2, none⟩ = some (.slice ab zs.length cb) ∧ w'.cell? ⟨wr.heap.size, 3, none⟩ = some (.slice ak bs.length ck))) := hpG
          have HpT : Hid (∀ w', pT w' ↔ True) := hpT
          have HY : Hid (pG (wr.alloc (.cells #[.int .i64 4, .int .i64 A, .slice ab zs.length cb, .slice ak bs.length ck] 35)).drew) := (hpG _).2 ⟨y1, y2, y3⟩
          clear hpG hpT
          refine far.region_farM (fun κ w' => κ ≤ 1 → pG w') [3, 7] (by kernel_rfl) (by kernel_rfl) (fun _ => HY.out) ?_
          intro L e1 e2 e3
          refine far.farO_stretch pG 3 0 0 e1 e2 e3 (by kernel_rfl) (by kernel_rfl) (fun κ w' hk1 hk2 hC => hC (by omega)) ?_
          simp only [List.take_succ_cons, List.take_zero, List.drop_succ_cons, List.drop_zero, Nat.reduceAdd]
          repeat (go_big_quiet_step (fail))
          refine wpQuiet_nil ?_
          refine far.farO_enter e1 e2 0 rfl rfl 21 #[.pointer (some ⟨p, 0, none⟩), .slice ak bs.length ck] (by kernel_rfl) (by kernel_rfl) ?_
          refine C1.mono ?_
          rintro e w5 ⟨rfl, hP⟩
          obtain ⟨hst, C3⟩ := C2 _ hP
          have z1 := hst 1 _ y1
          have z2 := hst 2 _ y2
          have z3 := hst 3 _ y3
          refine ⟨_, rfl, fun _ => (HpG.out _).2 ⟨z1, z2, z3⟩, ?_⟩
          simp only [Act.put, List.setIfInBounds_toArray, List.set_cons_succ, List.set_cons_zero, Nat.reduceAdd]
          refine far.farO_stretch pG 3 0 1 e1 e2 e3 (by kernel_rfl) (by kernel_rfl) (fun κ w' hk1 hk2 hC => hC (by omega)) ?_
          simp only [List.take_succ_cons, List.take_zero, List.drop_succ_cons, List.drop_zero, Nat.reduceAdd]
          repeat (go_big_quiet_step (fail))
          refine wpQuiet_nil ?_
          refine far.farO_enter e1 e2 1 rfl rfl 22 #[.pointer (some ⟨q, 0, none⟩), .slice ak bs.length ck] (by kernel_rfl) (by kernel_rfl) ?_
          refine C3.mono ?_
          rintro e w6 ⟨rfl, hDD⟩
          refine ⟨_, rfl, fun h => by omega, ?_⟩
          simp only [Act.put, List.setIfInBounds_toArray, List.set_cons_succ, List.set_cons_zero, Nat.reduceAdd]
          refine far.farO_stretch pT 2 2 2 e1 e2 e3 (by kernel_rfl) (by kernel_rfl) (fun κ w' hk1 hk2 hC => (HpT.out _).2 trivial) ?_
          simp only [List.take_succ_cons, List.take_zero, List.drop_succ_cons, List.drop_zero, Nat.reduceAdd]
          repeat (go_big_quiet_step (fail))
          refine wpQuiet_nil ?_
          refine far.farO_nil ?_
          clear C1 C2 C3 hst hP hx1 hx2 hx3
          go_wp2
          go_meet
          case rel => exact ⟨rfl, hzD.out _ hDD⟩
        clear HR HY HM HW HB HC
        go_wp2
        go_meet
        case rel => exact ⟨rfl, HDX.out⟩
      case rest =>
        clear HR HW HY HM HC HB HDX hzD y1 y2 y3 hg
        obtain ⟨rfl, F5, G5, m5, n5, hD5⟩ := hcut
        have hup := hD5.like.up
        have hops := hD5.like.ops
        have hlen := hD5.like.len
        have UP : ∀ t, Calls Try.prog 25 #[.pointer (some ⟨p, 0, none⟩)] (wc.drewN t) fun e w' => e = .returned (.bool m5.up) ∧ w' = wc.drewN t := fun t => up_any (hD5.same ((Chg.refl no wc).drewN t)).st
        have RUP : ∀ t, Calls Try.prog 26 #[.pointer (some ⟨q, 0, none⟩)] (wc.drewN t) fun e w' => e = .returned (.bool m5.up) ∧ w' = wc.drewN t := fun t => by have := rup_any (hD5.same ((Chg.refl no wc).drewN t)).rt; rwa [← hup] at this
        have FL : ∀ t, Calls Try.prog 27 #[.pointer (some ⟨p, 0, none⟩)] (wc.drewN t) fun e w' => e = .returned (.int .i64 m5.W.length) ∧ w' = wc.drewN t := fun t => flight_any (hD5.same ((Chg.refl no wc).drewN t)).st
        have RFL : ∀ t, Calls Try.prog 28 #[.pointer (some ⟨q, 0, none⟩)] (wc.drewN t) fun e w' => e = .returned (.int .i64 m5.W.length) ∧ w' = wc.drewN t := fun t => by have := rflight_any (hD5.same ((Chg.refl no wc).drewN t)).rt; rwa [← hlen] at this
        have OP : ∀ t, Calls Try.prog 29 #[.pointer (some ⟨p, 0, none⟩)] (wc.drewN t) fun e w' => e = .returned (.int .i64 m5.ops) ∧ w' = wc.drewN t := fun t => ops_any (hD5.same ((Chg.refl no wc).drewN t)).st
        have CE : ∀ t, Calls Try.prog 30 #[.pointer (some ⟨p, 0, none⟩)] (wc.drewN t) fun e w' => e = .returned (.int .i64 n) ∧ w' = wc.drewN t := fun t => by have := cells_any (hD5.same ((Chg.refl no wc).drewN t)).st; rwa [hD5.V] at this
        have SZ : ∀ t, Calls Try.prog 31 #[.pointer (some ⟨p, 0, none⟩)] (wc.drewN t) fun e w' => e = .returned (.int .i64 sz) ∧ w' = wc.drewN t := fun t => by have := size_any (hD5.same ((Chg.refl no wc).drewN t)).st; rwa [hD5.sz] at this
        have RO : wc.cell? ⟨q, 2, none⟩ = some (.int .i64 m5.ops) := by
          obtain ⟨gc, I, b, Aq, K, vf, vk, vt, t, T, H, _⟩ := hD5.rt
          have := H.cells.2.2.1
          rwa [← hops] at this
        obtain ⟨u, hu⟩ : ∃ u, m5.up = u := ⟨_, rfl⟩
        obtain ⟨L, hL⟩ : ∃ L, m5.W.length = L := ⟨_, rfl⟩
        obtain ⟨P, hP⟩ : ∃ P, m5.ops = P := ⟨_, rfl⟩
        rw [hu] at UP RUP
        rw [hL] at FL RFL
        rw [hP] at OP RO
        have HUP : Hid _ := UP
        have HRUP : Hid _ := RUP
        have HFL : Hid _ := FL
        have HRFL : Hid _ := RFL
        have HOP : Hid _ := OP
        have HCE : Hid _ := CE
        have HSZ : Hid _ := SZ
        have HD5 : Hid (DD w p q n sz (j + 1) wc) := ⟨_, _, _, _, hD5⟩
        clear hD5 hup hops hlen hu hL hP UP RUP FL RFL OP CE SZ
        go_wp2_with fail
        go_quiet ((first | (go_at_call 25; go_must (exact Calls.quiet_of_same (HUP.out _))) | (go_at_call 26; go_must (exact Calls.quiet_of_same (HRUP.out _))) | (go_at_call 27; go_must (exact Calls.quiet_of_same (HFL.out _))) | (go_at_call 28; go_must (exact Calls.quiet_of_same (HRFL.out _))) | (go_at_call 29; go_must (exact Calls.quiet_of_same (HOP.out _))) | (go_at_call 30; go_must (exact Calls.quiet_of_same (HCE.out _))) | (go_at_call 31; go_must (exact Calls.quiet_of_same (HSZ.out _)))))
        clear HUP HRUP HFL HRFL HOP HCE HSZ RO
        have D6 : DD w p q n sz (j + 1) (wc.drewN nq) := HD5.out.same ((Chg.refl no wc).drewN nq)
        clear HD5
        go_wp2_with fail
        go_loopw [18] (fun v wt => ∃ t : Nat, t ≤ n + 2 ∧ v = .int .i64 ((t : Int) - 1) ∧ DD w p q n sz (j + 1) wt) (fun v _ => ((n : Int) + 1 - intOf v).toNat)
        case atStart => exact ⟨0, by omega, rfl, D6⟩
        case round =>
          clear D6
          obtain ⟨t, ht, rfl, F6, G6, m6, n6, hD6⟩ := hrel
          by_cases htn : t ≤ n + 1
          · have hti : (t : Int) - 1 ≤ n := by omega
            obtain ⟨P1, C1, C2⟩ := dpeek hD6 (by omega) ((t : Int) - 1)
            clear hD6
            go_wp2_with fail
            refine C1.mono ?_
            rintro e w5 ⟨x5, l5, c5, rfl, hP⟩
            have C3 := C2 _ _ hP
            clear C1 C2 hP
            go_wp2_with fail
            refine C3.mono ?_
            rintro e w6 ⟨x6, l6, c6, rfl, hDD, B⟩
            go_wp2_with fail
            refine B.mono ?_
            rintro e w7 ⟨rfl, rfl⟩
            clear C3 B
            go_wp2
            go_roundw
            case rel => exact ⟨t + 1, by omega, by go_num, hDD⟩
            case measure => simp [intOf]; omega
          · have hti : (n : Int) < (t : Int) - 1 := by omega
            have hDD : DD w p q n sz (j + 1) wr := ⟨_, _, _, _, hD6⟩
            clear hD6
            go_wp2
            go_roundw
            case rel => exact ⟨j + 1, by omega, by go_num, hDD⟩
            case measure => simp [intOf]; omega
    · obtain rfl : j = len2 := by omega
      have hji : (j : Int) ≤ (j : Int) := by omega
      have hC := hD.chg
      clear hD
      go_wp2_with fail
      refine (first_any _).mono ?_
      rintro e w5 ⟨rfl, k5⟩
      go_wp2
      go_ret
      exact ⟨rfl, (hC.then k5).below⟩

theorem walk (w : World) (a0 : Int) (a1 : Int) (a2 : Option Addr) (len2 cap2 : Nat) (O : Nat → OpA) (w0 : (Lit.int .i64 a0).wf = true) (w1 : (Lit.int .i64 a1).wf = true) (A2 : OpsAt w a2 len2 O) (c2 : len2 ≤ cap2) :
    Calls Try.prog 3 #[.int .i64 a0, .int .i64 a1, .slice a2 len2 cap2] w fun e w' => e = .returned (.bool true) ∧ Below w.heap.size w w' := by
  by_cases hh : a0 < 1 ∨ 60 < a0 ∨ a1 < 1 ∨ 60 < a1
  · exact early w a0 a1 a2 len2 cap2 O A2 hh
  · obtain ⟨n, rfl⟩ := Int.eq_ofNat_of_zero_le (show 0 ≤ a0 by omega)
    obtain ⟨sz, rfl⟩ := Int.eq_ofNat_of_zero_le (show 0 ≤ a1 by omega)
    exact late w n sz a2 len2 cap2 O A2 (by omega) (by omega) (by omega) (by omega)

theorem own : ownKnob Try.prog.godebug = none := by kernel_rfl
theorem laidOut : laidOutB Try.prog = true := by kernel_rfl

set_option maxRecDepth 100000 in
theorem lifted (os : Os) (started : os.Started) (H : Type) (enc : TypeId × Value → H) :
    ReturnsInHanded {} Try.checked os 3 .any (Rows.cellsPlaySpec.pre6 enc Try.prog Try.f3 Rows.cellsPlayRow.domain false) (Rows.cellsPlaySpec.post enc Try.prog Try.f3 false true false false) := by
  refine returnsInHanded_of_change (C := Try.checked) own started (by kernel_rfl) Try.func3
    (ChangeSpec.witness6 (enc := enc) (C := Try.checked) false ⟨#[], #[.int .i64 0, .int .i64 0, .slice none 0 0], []⟩ 8 (by kernel_rfl) (by kernel_rfl) (by kernel_rfl) (by kernel_rfl)) ?_
  intro W base args ds gs before hval0 hW hcnd _
  have hval : ∀ (j : Nat) t v, Try.f3.params[j]? = some t → args[j]? = some v → Value.okWide Try.prog W .any base t v := hval0
  have hW' := hW
  obtain ⟨p, q, hA0, hV, rfl, hfz, hnd⟩ := hW
  have hA : DataW.TrodAll enc Try.prog W 0 (fun _ => true) true Try.f3.params.toList args.toList ds p := hA0
  rw [Try.params3] at hA hval
  obtain ⟨v0, vs0, d0, ds0, p0, q0, hargs, rfl, rfl, h0, r0⟩ := trodAll_cons hA
  obtain ⟨v1, vs1, d1, ds1, p1, q1, rfl, rfl, rfl, h1, r1⟩ := trodAll_cons r0
  obtain ⟨v2, vs2, d2, ds2, p2, q2, rfl, rfl, rfl, h2, r2⟩ := trodAll_cons r1
  obtain ⟨rfl, rfl, rfl⟩ := trodAll_nil r2
  obtain rfl : args = #[v0, v1, v2] := by cases args; simp_all
  obtain ⟨rfl, rfl⟩ := trodVars_none hV
  obtain ⟨a0, rfl, rfl, rfl, w0⟩ := open_int Try.underlying3 (hval 0 3 v0 rfl rfl) h0
  obtain ⟨a1, rfl, rfl, rfl, w1⟩ := open_int Try.underlying3 (hval 1 3 v1 rfl rfl) h1
  obtain ⟨a2, len2, cap2, rfl⟩ := okWide_slice Try.underlying22 (hval 2 22 v2 rfl rfl)
  have k2 := h2
  have lt2 : ∀ x ∈ p2, x.block < W.heap.size := by obtain ⟨m, hm⟩ := k2; exact DataW.trod_lt m _ _ _ hm
  have c2 : len2 ≤ cap2 := by obtain ⟨m, hm⟩ := k2; exact (open_cap Try.underlying22 hm).1
  obtain ⟨O2, w2⟩ := (by obtain ⟨fuel, hf⟩ := h2; exact open_ops hf : ∃ z : Nat → OpA, OpsAt W a2 len2 z)
  clear hA0 hval0
  refine (walk W a0 a1 a2 len2 cap2 O2 w0 w1 w2 c2).mono fun e W' ⟨he, bel⟩ => ?_
  subst he
  exact ⟨_, rfl, _, _, _, [], _, [], hW', trodAll_mk1 (shut_bool Try.underlying4 _), (trodAll_cons_mk (shut_int Try.underlying3 w0) (trodAll_cons_mk (shut_int Try.underlying3 w1) (trodAll_cons_mk (Below.trod laidOut (by kernel_rfl) (of_decide_eq_true (by kernel_rfl)) k2 bel lt2) trodAll_mk0))), rfl, bel.frame _, fun h => by cases h⟩

theorem over : Rows.cellsPlayRow.holds Try.pinned (OpenSpec.ofChange Rows.cellsPlaySpec) :=
  OpenClaim.holds_of_wide 3 Try.f3 rfl rfl rfl rfl rfl rfl rfl ⟨rfl, rfl, rfl, rfl, rfl⟩ rfl rfl rfl rfl rfl (by kernel_rfl) Try.func3 (by kernel_rfl)
    (of_decide_eq_true (by kernel_rfl)) (by unfold Func.isWrapper; first | (rw [if_pos (by decide +kernel)]; kernel_rfl) | (rw [if_neg (by decide +kernel)]; exact ⟨rfl, rfl⟩))
    (fun os started H enc _ => lifted os started H enc)

theorem proved : Rows.CellsPlaySaid := over
end Go.Proofs.Ytjmdjadnllakpaa.cellsPlay
namespace Go.Proofs.Ytjmdjadnllakpaa
theorem cellsPlay_holds : Rows.CellsPlaySaid := cellsPlay.proved
#print axioms cellsPlay_holds
end Go.Proofs.Ytjmdjadnllakpaa
