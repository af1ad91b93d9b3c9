/-
  Proved: for every three numbers the law NonceOnce returns true; no condition.
-/
import Derived.Test.YthmpkalalceapaaFst
import Derived.Test.YthmpkalalceapaaFas
import Derived.Below
namespace Go.Proofs.Ythmpkalalceapaa.nonceOnce
open Go.ChangeShapes Go.WideShapes Go.ChangeAt Go.RowKit Go.Proofs.Ythmpkalalceapaa.hp Go.Proofs.Ythmpkalalceapaa.dg Go.Proofs.Ythmpkalalceapaa.st
set_option linter.unusedVariables false

set_option maxRecDepth 100000 in
set_option maxHeartbeats 2000000 in
theorem early (w : World) (a0 a1 a2 : Int) (hh : a0 < 1 ∨ 1073741824 < a0 ∨ a1 < 1 ∨ 1000 < a1 ∨ a2 < 1 ∨ 200 < a2) :
    Calls Try.prog 5 #[.int .i64 a0, .int .i64 a1, .int .i64 a2] w fun e w' => e = .returned (.bool true) ∧ Below w.heap.size w w' := by
  have hc : (a0 < 1) ∨ (1 ≤ a0 ∧ 1073741824 < a0) ∨ (1 ≤ a0 ∧ a0 ≤ 1073741824 ∧ a1 < 1) ∨ (1 ≤ a0 ∧ a0 ≤ 1073741824 ∧ 1 ≤ a1 ∧ 1000 < a1) ∨ (1 ≤ a0 ∧ a0 ≤ 1073741824 ∧ 1 ≤ a1 ∧ a1 ≤ 1000 ∧ a2 < 1) ∨ (1 ≤ a0 ∧ a0 ≤ 1073741824 ∧ 1 ≤ a1 ∧ a1 ≤ 1000 ∧ 1 ≤ a2 ∧ 200 < a2) := by omega
  clear hh
  rcases hc with h1 | ⟨h1, h2⟩ | ⟨h1, h2, h3⟩ | ⟨h1, h2, h3, h4⟩ | ⟨h1, h2, h3, h4, h5⟩ | ⟨h1, h2, h3, h4, h5, h6⟩
  all_goals
    go_enter Try.func5, Try.ntmps5
    go_wp2_with fail
    refine (first_any _).mono ?_
    rintro e w1 ⟨rfl, k1⟩
    go_wp2_with fail
    refine (first_any _).mono ?_
    rintro e w3 ⟨rfl, k3⟩
    go_wp2
    go_ret
    exact ⟨rfl, (k1.then k3).below⟩

abbrev two (a b : Int) : Obj := .cells #[.int .i64 a, .int .i64 b] 23 (0, 0)

/-- Within the law: the source at p, the greater nonce at z, the last one at l. -/
structure OAt (w : World) (p z l : Nat) (g h c lg lc : Int) (wr : World) : Prop where
  sp : Src wr p 47 g c 1099511627776
  sz : wr.heap[z]? = some (two h 0)
  sl : wr.heap[l]? = some (two lg lc)
  chg : Chg no w wr
  pn : w.heap.size ≤ p
  ln : w.heap.size ≤ l
  pz : z ≠ p
  pl : l ≠ p
  zl : z ≠ l

theorem OAt.same {w wr w' : World} {p z l : Nat} {g h c lg lc : Int} (H : OAt w p z l g h c lg lc wr) (k : Chg no wr w') : OAt w p z l g h c lg lc w' :=
  ⟨H.sp.chg k id, k.heap H.sz id, k.heap H.sl id, H.chg.then k, H.pn, H.ln, H.pz, H.pl, H.zl⟩

theorem OAt.next {w wr w' : World} {p z l : Nat} {g h c lg lc : Int} (H : OAt w p z l g h c lg lc wr) (s : Src w' p 47 g (c + 1) 1099511627776) (k : Chg (fun b => b = p) wr w') : OAt w p z l g h (c + 1) lg lc w' :=
  ⟨s, k.heap H.sz H.pz, k.heap H.sl H.pl, H.chg.trans k (fun b hb => .inr (by rw [hb]; exact H.pn)), H.pn, H.ln, H.pz, H.pl, H.zl⟩

theorem OAt.last {w wr : World} {p z l : Nat} {g h c lg lc : Int} (H : OAt w p z l g h c lg lc wr) (a b : Int) : OAt w p z l g h c a b ((wr.setCell ⟨l, 0, none⟩ (.int .i64 a)).setCell ⟨l, 1, none⟩ (.int .i64 b)) := by
  have k : Chg (fun b => b = l) wr ((wr.setCell ⟨l, 0, none⟩ (.int .i64 a)).setCell ⟨l, 1, none⟩ (.int .i64 b)) := ((Chg.refl (fun b => b = l) wr).setCell ⟨l, 0, none⟩ _ (.inl rfl)).setCell ⟨l, 1, none⟩ _ (.inl rfl)
  refine ⟨H.sp.chg k (fun e => H.pl e.symm), k.heap H.sz H.zl, ?_, H.chg.trans k (fun b hb => .inr (by rw [hb]; exact H.ln)), H.pn, H.ln, H.pz, H.pl, H.zl⟩
  have h1 := row_set (xs := [_, _]) H.sl 0 (.int .i64 a)
  have h2 := row_set (xs := [_, _]) h1 1 (.int .i64 b)
  simpa using h2

/-- The last one's numbers, when j were told. -/
def lG (g : Int) (j : Nat) : Int := if j = 0 then 0 else g
def lC (j : Nat) : Int := if j = 0 then 0 else (j : Int) - 1

theorem l_facts (g : Int) (j : Nat) (h1 : 1 ≤ g) (h2 : g ≤ 1073741824) (h3 : j ≤ 200) : may (lG g j) (lC j) = true ∧ (lG g j < g ∨ lG g j = g ∧ lC j < j) ∧ ¬ (g < lG g j ∨ g = lG g j ∧ (j : Int) < lC j) := by
  unfold lG lC may
  simp only [decide_eq_true_eq]
  split <;> omega

theorem l_next (g : Int) (j : Nat) : lG g (j + 1) = g ∧ lC (j + 1) = j := by
  unfold lG lC
  simp

set_option maxRecDepth 100000 in
set_option maxHeartbeats 8000000 in
theorem late (w : World) (g mo : Int) (n : Nat) (h1 : 1 ≤ g) (h2 : g ≤ 1073741824) (h3 : 1 ≤ mo) (h4 : mo ≤ 1000) (h5 : 1 ≤ n) (h6 : n ≤ 200) :
    Calls Try.prog 5 #[.int .i64 g, .int .i64 mo, .int .i64 n] w fun e w' => e = .returned (.bool true) ∧ Below w.heap.size w w' := by
  have i5 : (1 : Int) ≤ n := by omega
  have i6 : (n : Int) ≤ 200 := by omega
  have HF := fun w => from_some w g (by omega)
  have HG := fun w => from_some w (g + mo) (by omega)
  go_enter Try.func5, Try.ntmps5
  go_wp2_with fail
  refine (first_any _).mono ?_
  rintro e w1 ⟨rfl, k1⟩
  go_wp2_with fail
  refine (HF _).mono ?_
  rintro e w2 ⟨rfl, s2, k2⟩
  have K2 := k1.then k2
  have z1 := k1.size
  have z2 := s2.lt
  obtain ⟨p, hp⟩ : ∃ p, w1.heap.size = p := ⟨_, rfl⟩
  rw [hp] at s2 z1 z2 ⊢
  clear k1 k2 HF hp
  go_wp2_with fail
  refine (HG _).mono ?_
  rintro e w3 ⟨rfl, s3, k3⟩
  have K3 := K2.then k3
  have s2 := s2.chg k3 id
  have z3 := s3.lt
  obtain ⟨q, hq⟩ : ∃ q, w2.heap.size = q := ⟨_, rfl⟩
  rw [hq] at s3 z2 z3 ⊢
  have HN := next_go s3 (by omega) (by omega) (by omega)
  clear k3 HG
  go_wp2_with fail
  refine HN.mono ?_
  rintro e w4 ⟨rfl, s4, k4⟩
  have z4 := k4.size
  have zw := K2.size
  have K4 : Chg no w w4 := K3.trans k4 (fun b hb => .inr (by omega))
  have s2 := s2.chg k4 (by omega)
  have zk := K4.size
  have hO : OAt w p w4.heap.size (w4.heap.size + 1) g (g + mo) 0 0 0 ((w4.alloc (two (g + mo) 0)).alloc (two 0 0)) := by
    have e1 := heap_alloc_new w4 (two (g + mo) 0)
    have e2 := heap_alloc_new (w4.alloc (two (g + mo) 0)) (two 0 0)
    rw [show (w4.alloc (two (g + mo) 0)).heap.size = w4.heap.size + 1 by simp] at e2
    exact ⟨s2.chg (((Chg.refl no w4).alloc _).alloc _) id, ((Chg.refl no _).alloc _).heap e1 id, e2, (K4.alloc _).alloc _, z1, by omega, by omega, by omega, by omega⟩
  clear HN s2 s3 s4 k4 K3 K4 K2
  go_wp2_with fail
  obtain ⟨w5, hw5⟩ : ∃ w5, (w4.alloc (two (g + mo) 0)).alloc (two 0 0) = w5 := ⟨_, rfl⟩
  obtain ⟨z, hz⟩ : ∃ z, w4.heap.size = z := ⟨_, rfl⟩
  obtain ⟨l, hl⟩ : ∃ l, z + 1 = l := ⟨_, rfl⟩
  simp only [hw5, hz, hl] at hO
  simp only [two] at hw5
  simp only [hw5, hz, hl]
  clear hw5 hz hl hq z1 z2 z3 z4 zk zw
  go_loopw [12] (fun i wr => ∃ j : Nat, j ≤ n ∧ i = .int .i64 (j : Int) ∧ OAt w p z l g (g + mo) j (lG g j) (lC j) wr) (fun i _ => n - (intOf i).toNat)
  case atStart => exact ⟨0, by omega, rfl, by simpa [lG, lC] using hO⟩
  case round =>
    clear hO
    obtain ⟨j, hj, rfl, hB⟩ := hrel
    by_cases hjn : j < n
    · have hji : (j : Int) < n := by omega
      obtain ⟨f1, f2, f3⟩ := l_facts g j h1 h2 (by omega)
      obtain ⟨y1, y2⟩ := l_next g j
      have mg : may g j = true := decide_eq_true (by omega)
      obtain ⟨LG, hLG⟩ : ∃ x, lG g j = x := ⟨_, rfl⟩
      obtain ⟨LC, hLC⟩ : ∃ x, lC j = x := ⟨_, rfl⟩
      rw [hLG, hLC] at hB f1 f2 f3
      have HST : Hid (Op.bytesLess (strOfNums (nbs LG LC)).toList (strOfNums (nbs g j)).toList = true) := by
        have e := str_lt LG LC g j f1 mg
        rw [decide_eq_true f2] at e
        exact e
      have L1 : Hid (∀ w, Calls Try.prog 17 #[nv LG LC, nv g j] w fun e w' => e = .returned (.bool true) ∧ Chg no w w') := by
        intro w
        have e := less_any w LG LC g j
        rw [decide_eq_true f2] at e
        exact e
      have L2 : Hid (∀ w, Calls Try.prog 17 #[nv g j, nv LG LC] w fun e w' => e = .returned (.bool false) ∧ Chg no w w') := by
        intro w
        have e := less_any w g j LG LC
        rw [decide_eq_false f3] at e
        exact e
      have L3 : Hid (∀ w, Calls Try.prog 17 #[nv g j, nv (g + mo) 0] w fun e w' => e = .returned (.bool true) ∧ Chg no w w') := by
        intro w
        have e := less_any w g j (g + mo) 0
        rw [decide_eq_true (show (g < g + mo ∨ g = g + mo ∧ (j : Int) < 0) by omega)] at e
        exact e
      have HPP : Hid (∀ w' b, w'.heap[b]? = some (.cells ((nbs g j).map (Value.int .u8)).toArray 5 (0, 0)) → Calls Try.prog 9 #[.slice (some ⟨b, 0, none⟩) 12 12] w' fun e w'' => e = .returned (.tuple #[nv g j, .int .i64 0]) ∧ Chg no w' w'') := by
        intro w' b hb
        have q := block_lies hb
        rw [nbs_length] at q
        refine (parse_12 w' _ (nbs g j) q (nbs_bytes _ _) (nbs_length _ _)).mono ?_
        rintro e w'' ⟨e1, _, e3⟩
        obtain ⟨e4, e5⟩ := pg_nbs g j mg
        rw [e4, e5] at e1
        exact ⟨e1 mg, e3⟩
      have HB0 := fun w => bytes_any w LG LC
      have HB1 := fun w => bytes_any w g j
      obtain ⟨Z0, hZ0⟩ : ∃ Z, nbs LG LC = Z := ⟨_, rfl⟩
      obtain ⟨Z1, hZ1⟩ : ∃ Z, nbs g j = Z := ⟨_, rfl⟩
      have hz0 : Z0.length = 12 := by rw [← hZ0]; exact nbs_length _ _
      have hz1 : Z1.length = 12 := by rw [← hZ1]; exact nbs_length _ _
      simp only [hZ0] at HB0 HST
      simp only [hZ1] at HB1 HST HPP
      have HBB0 : Hid (∀ w, Calls Try.prog 15 #[nv LG LC] w (Bys w Z0)) := HB0
      have HBB1 : Hid (∀ w, Calls Try.prog 15 #[nv g j] w (Bys w Z1)) := HB1
      obtain ⟨S0, hS0⟩ : ∃ S, strOfNums Z0 = S := ⟨_, rfl⟩
      obtain ⟨S1, hS1⟩ : ∃ S, strOfNums Z1 = S := ⟨_, rfl⟩
      have HC0 : Hid (∀ w' b, w'.heap[b]? = some (.cells (Z0.map (Value.int .u8)).toArray 5 (0, 0)) → (convert 24 9 (.slice (some ⟨b, 0, none⟩) 12 12)).run Try.prog w' = .ok (.string S0) w') := by
        intro w' b hb
        have q := block_lies hb
        rw [hz0] at q
        rw [← hS0]
        exact conv_arg q
      have HC1 : Hid (∀ w' b, w'.heap[b]? = some (.cells (Z1.map (Value.int .u8)).toArray 5 (0, 0)) → (convert 24 9 (.slice (some ⟨b, 0, none⟩) 12 12)).run Try.prog w' = .ok (.string S1) w') := by
        intro w' b hb
        have q := block_lies hb
        rw [hz1] at q
        rw [← hS1]
        exact conv_arg q
      simp only [hS0, hS1] at HST
      have HY : Hid (lG g (j + 1) = g ∧ lC (j + 1) = j) := ⟨y1, y2⟩
      have HN := next_go hB.sp (by omega) (by omega) (by omega)
      clear hLG hLC hZ0 hZ1 hS0 hS1 hz0 hz1 HB0 HB1 f1 f2 f3 mg y1 y2
      go_wp2_with fail
      refine HN.mono ?_
      rintro e w6 ⟨rfl, s6, k6⟩
      have O6 := hB.next s6 k6
      have O7 := O6.same ((Chg.refl no w6).alloc (two g j))
      have g7 : (w6.alloc (two g j)).heap[w6.heap.size]? = some (two g j) := heap_alloc_new _ _
      clear HN s6 k6 hB O6
      simp only [two] at O7 g7
      go_wp2_with fail
      refine (HBB1.out _).mono ?_
      rintro e w8 ⟨b, rfl, _, hb, k8⟩
      have O8 := O7.same k8
      have g8 := k8.heap g7 id
      have HP8 := HPP.out _ _ hb
      clear O7 g7 k8 hb HPP
      go_wp2_with fail
      refine HP8.mono ?_
      rintro e w9 ⟨rfl, k9⟩
      have O9 := O8.same k9
      have g9 := k9.heap g8 id
      have ka : Chg no w9 (w9.alloc (two g j)) := (Chg.refl no w9).alloc _
      have OA := O9.same ka
      have gN := ka.heap g9 id
      have gM : (w9.alloc (two g j)).heap[w9.heap.size]? = some (two g j) := heap_alloc_new _ _
      clear HP8 O8 g8 k9 O9 g9 ka
      go_wp2_with fail
      obtain ⟨wA, hwA⟩ : ∃ wA, w9.alloc (two g j) = wA := ⟨_, rfl⟩
      obtain ⟨N, hN⟩ : ∃ N, w6.heap.size = N := ⟨_, rfl⟩
      obtain ⟨M, hM⟩ : ∃ M, w9.heap.size = M := ⟨_, rfl⟩
      simp only [hwA, hN, hM] at OA gN gM
      simp only [two] at hwA gN gM
      simp only [hwA, hN, hM]
      clear hwA hN hM
      obtain ⟨pG, hpG⟩ : ∃ pG : World → Prop, ∀ w', pG w' ↔ Chg no wA w' := ⟨_, fun _ => Iff.rfl⟩
      have xN0 : ∀ x' : fas.InC pG, x'.w.cell? ⟨N, 0, none⟩ = some (.int .i64 g) := fun x => (row_cell (xs := [_, _]) (((hpG _).1 x.h).heap gN id) 0 _ rfl).1
      have xN1 : ∀ x' : fas.InC pG, x'.w.cell? ⟨N, 1, none⟩ = some (.int .i64 j) := fun x => (row_cell (xs := [_, _]) (((hpG _).1 x.h).heap gN id) 1 _ rfl).1
      have xM0 : ∀ x' : fas.InC pG, x'.w.cell? ⟨M, 0, none⟩ = some (.int .i64 g) := fun x => (row_cell (xs := [_, _]) (((hpG _).1 x.h).heap gM id) 0 _ rfl).1
      have xM1 : ∀ x' : fas.InC pG, x'.w.cell? ⟨M, 1, none⟩ = some (.int .i64 j) := fun x => (row_cell (xs := [_, _]) (((hpG _).1 x.h).heap gM id) 1 _ rfl).1
      have xz0 : ∀ x' : fas.InC pG, x'.w.cell? ⟨z, 0, none⟩ = some (.int .i64 (g + mo)) := fun x => (row_cell (xs := [_, _]) (((hpG _).1 x.h).heap OA.sz id) 0 _ rfl).1
      have xz1 : ∀ x' : fas.InC pG, x'.w.cell? ⟨z, 1, none⟩ = some (.int .i64 0) := fun x => (row_cell (xs := [_, _]) (((hpG _).1 x.h).heap OA.sz id) 1 _ rfl).1
      have xl0 : ∀ x' : fas.InC pG, x'.w.cell? ⟨l, 0, none⟩ = some (.int .i64 LG) := fun x => (row_cell (xs := [_, _]) (((hpG _).1 x.h).heap OA.sl id) 0 _ rfl).1
      have xl1 : ∀ x' : fas.InC pG, x'.w.cell? ⟨l, 1, none⟩ = some (.int .i64 LC) := fun x => (row_cell (xs := [_, _]) (((hpG _).1 x.h).heap OA.sl id) 1 _ rfl).1
      have iG : Nonempty (fas.InC pG) := ⟨⟨wA, (hpG _).2 (Chg.refl _ _)⟩⟩
      have HpG : Hid (∀ w', pG w' ↔ Chg no wA w') := hpG
      have HOA : Hid (OAt w p z l g (g + mo) (j + 1) LG LC wA) := OA
      have HGN : Hid (wA.heap[N]? = some (two g j)) := gN
      have Y0 : Chg no wA wA.drew := (Chg.refl no wA).drew
      clear hpG OA gN gM
      refine fas.region_farM (fun κ w' => pG w') [14, 20, 25, 30, 33] (by kernel_rfl) (by kernel_rfl) ((HpG.out _).2 Y0) ?_
      intro L e1' e2' e3'
      refine fas.farO_stretch pG 14 0 0 e1' e2' e3' (by kernel_rfl) (by kernel_rfl) (fun κ w' hk1 hk2 hC => hC) ?_
      simp only [List.take_succ_cons, List.take_zero, List.drop_succ_cons, List.drop_zero, Nat.reduceAdd]
      repeat (go_big_quiet_step (fail))
      refine wpQuiet_nil ?_
      refine fas.farO_enter e1' e2' 0 rfl rfl 17 #[nv LG LC, nv g j] (by kernel_rfl) (by kernel_rfl) ?_
      refine (L1.out _).mono ?_
      rintro e wa ⟨rfl, ka⟩
      have Ka := Y0.then ka
      refine ⟨_, rfl, (HpG.out _).2 Ka, ?_⟩
      simp only [Act.put, List.setIfInBounds_toArray, List.set_cons_succ, List.set_cons_zero, Nat.reduceAdd]
      refine fas.farO_stretch pG 5 0 1 e1' e2' e3' (by kernel_rfl) (by kernel_rfl) (fun κ w' hk1 hk2 hC => hC) ?_
      simp only [List.take_succ_cons, List.take_zero, List.drop_succ_cons, List.drop_zero, Nat.reduceAdd]
      repeat (go_big_quiet_step (fail))
      refine wpQuiet_nil ?_
      refine fas.farO_enter e1' e2' 1 rfl rfl 17 #[nv g j, nv LG LC] (by kernel_rfl) (by kernel_rfl) ?_
      refine (L2.out _).mono ?_
      rintro e wb ⟨rfl, kb⟩
      have Kb := Ka.then kb
      refine ⟨_, rfl, (HpG.out _).2 Kb, ?_⟩
      simp only [Act.put, List.setIfInBounds_toArray, List.set_cons_succ, List.set_cons_zero, Nat.reduceAdd]
      refine fas.farO_stretch pG 4 0 2 e1' e2' e3' (by kernel_rfl) (by kernel_rfl) (fun κ w' hk1 hk2 hC => hC) ?_
      simp only [List.take_succ_cons, List.take_zero, List.drop_succ_cons, List.drop_zero, Nat.reduceAdd]
      repeat (go_big_quiet_step (fail))
      refine wpQuiet_nil ?_
      refine fas.farO_enter e1' e2' 2 rfl rfl 17 #[nv g j, nv (g + mo) 0] (by kernel_rfl) (by kernel_rfl) ?_
      refine (L3.out _).mono ?_
      rintro e wc ⟨rfl, kc⟩
      have Kc := Kb.then kc
      refine ⟨_, rfl, (HpG.out _).2 Kc, ?_⟩
      simp only [Act.put, List.setIfInBounds_toArray, List.set_cons_succ, List.set_cons_zero, Nat.reduceAdd]
      refine fas.farO_stretch pG 4 0 3 e1' e2' e3' (by kernel_rfl) (by kernel_rfl) (fun κ w' hk1 hk2 hC => hC) ?_
      simp only [List.take_succ_cons, List.take_zero, List.drop_succ_cons, List.drop_zero, Nat.reduceAdd]
      repeat (go_big_quiet_step (fail))
      refine wpQuiet_nil ?_
      refine fas.farO_narrow e1' e2' e3' 3 rfl rfl 15 #[nv LG LC] (by kernel_rfl) (by kernel_rfl) ?_
      refine (HBB0.out _).mono ?_
      rintro e wd ⟨p0, rfl, _, hb0, kd⟩
      have Kd := Kc.then kd
      refine ⟨_, rfl, (HpG.out _).2 Kd, fun w' => w'.heap[p0]? = some (.cells (Z0.map (Value.int .u8)).toArray 5 (0, 0)), hb0, ?_⟩
      intro La e1 e2 e3
      simp only [Act.put, List.setIfInBounds_toArray, List.set_cons_succ, List.set_cons_zero, Nat.reduceAdd]
      obtain ⟨pC, hpC⟩ : ∃ pC : World → Prop, ∀ w', pC w' ↔ w'.heap[p0]? = some (.cells (Z0.map (Value.int .u8)).toArray 5 (0, 0)) := ⟨_, fun _ => Iff.rfl⟩
      have xC : ∀ x' : fas.InC pC, (convert 24 9 (.slice (some ⟨p0, 0, none⟩) 12 12)).run Try.prog x'.w = .ok (.string S0) x'.w := fun x => HC0.out _ _ ((hpC _).1 x.h)
      have iC : Nonempty (fas.InC pC) := ⟨⟨wd, (hpC _).2 hb0⟩⟩
      have HpC : Hid (∀ w', pC w' ↔ w'.heap[p0]? = some (.cells (Z0.map (Value.int .u8)).toArray 5 (0, 0))) := hpC
      clear hpC
      refine fas.farO_stretch pC 1 4 5 e1 e2 e3 (by kernel_rfl) (by kernel_rfl) (fun κ w' hk1 hk2 hC => (HpC.out _).2 (hC.2 (by omega))) ?_
      simp only [List.take_succ_cons, List.take_zero, List.drop_succ_cons, List.drop_zero, Nat.reduceAdd]
      repeat (go_big_quiet_step (fail))
      refine wpQuiet_nil ?_
      refine fas.farO_stretch pG 1 0 4 e1 e2 e3 (by kernel_rfl) (by kernel_rfl) (fun κ w' hk1 hk2 hC => hC.1) ?_
      simp only [List.take_succ_cons, List.take_zero, List.drop_succ_cons, List.drop_zero, Nat.reduceAdd]
      repeat (go_big_quiet_step (fail))
      refine wpQuiet_nil ?_
      refine fas.farO_narrow e1 e2 e3 4 rfl rfl 15 #[nv g j] (by kernel_rfl) (by kernel_rfl) ?_
      refine (HBB1.out _).mono ?_
      rintro e we ⟨p1, rfl, _, hb1, ke⟩
      have Ke := Kd.then ke
      refine ⟨_, rfl, ⟨(HpG.out _).2 Ke, fun _ => ke.heap hb0 id⟩, fun w' => w'.heap[p1]? = some (.cells (Z1.map (Value.int .u8)).toArray 5 (0, 0)), hb1, ?_⟩
      intro Lb u1 u2 u3
      simp only [Act.put, List.setIfInBounds_toArray, List.set_cons_succ, List.set_cons_zero, Nat.reduceAdd]
      obtain ⟨pD, hpD⟩ : ∃ pD : World → Prop, ∀ w', pD w' ↔ w'.heap[p1]? = some (.cells (Z1.map (Value.int .u8)).toArray 5 (0, 0)) := ⟨_, fun _ => Iff.rfl⟩
      have xD : ∀ x' : fas.InC pD, (convert 24 9 (.slice (some ⟨p1, 0, none⟩) 12 12)).run Try.prog x'.w = .ok (.string S1) x'.w := fun x => HC1.out _ _ ((hpD _).1 x.h)
      have iD : Nonempty (fas.InC pD) := ⟨⟨we, (hpD _).2 hb1⟩⟩
      have HpD : Hid (∀ w', pD w' ↔ w'.heap[p1]? = some (.cells (Z1.map (Value.int .u8)).toArray 5 (0, 0))) := hpD
      have hst := HST.out
      clear hpD
      refine fas.farO_stretch pD 3 5 5 u1 u2 u3 (by kernel_rfl) (by kernel_rfl) (fun κ w' hk1 hk2 hC => (HpD.out _).2 (hC.2 (by omega))) ?_
      simp only [List.take_succ_cons, List.take_zero, List.drop_succ_cons, List.drop_zero, Nat.reduceAdd]
      repeat (go_big_quiet_step (fail))
      refine wpQuiet_nil ?_
      refine fas.farO_nil ?_
      have OE := HOA.out.same Ke
      have gE := Ke.heap HGN.out id
      obtain ⟨r0, _⟩ := row_cell (xs := [_, _]) gE 0 _ rfl
      obtain ⟨r1, _⟩ := row_cell (xs := [_, _]) gE 1 _ rfl
      obtain ⟨t0, v0⟩ := row_cell (xs := [_, _]) OE.sl 0 _ rfl
      obtain ⟨t1, v1⟩ := row_cell (xs := [_, _]) OE.sl 1 _ rfl
      have hlt := lt_of_block OE.sl
      have OF := OE.last g j
      clear xN0 xN1 xM0 xM1 xz0 xz1 xl0 xl1 xC xD iG iC iD HpG HpC HpD HOA HGN Y0 Ka Kb Kc Kd Ke ka kb kc kd ke hb0 hb1 HC0 HC1 L1 L2 L3 HBB0 HBB1 HST hst gE OE
      go_wp2
      go_roundw
      case rel => exact ⟨j + 1, by omega, by go_num, by rw [HY.out.1, HY.out.2, show ((j + 1 : Nat) : Int) = (j : Int) + 1 by omega]; exact OF⟩
      case measure => simp [intOf]; omega
    · obtain rfl : j = n := by omega
      have hji : (j : Int) ≤ (j : Int) := by omega
      have hlc : lC j = (j : Int) - 1 := by unfold lC; rw [if_neg (by omega)]
      rw [hlc] at hB
      clear hlc
      go_wp2_with fail
      refine (first_any _).mono ?_
      rintro e w8 ⟨rfl, k8⟩
      have O8 := hB.same k8
      obtain ⟨t1, v1⟩ := row_cell (xs := [_, _]) O8.sl 1 _ rfl
      go_wp2
      go_ret
      exact ⟨rfl, O8.chg.below⟩

theorem walk (w : World) (a0 a1 a2 : Int) (w0 : (Lit.int .i64 a0).wf = true) (w1 : (Lit.int .i64 a1).wf = true) (w2 : (Lit.int .i64 a2).wf = true) :
    Calls Try.prog 5 #[.int .i64 a0, .int .i64 a1, .int .i64 a2] w fun e w' => e = .returned (.bool true) ∧ Below w.heap.size w w' := by
  by_cases hh : a0 < 1 ∨ 1073741824 < a0 ∨ a1 < 1 ∨ 1000 < a1 ∨ a2 < 1 ∨ 200 < a2
  · exact early w a0 a1 a2 hh
  · obtain ⟨n, rfl⟩ := Int.eq_ofNat_of_zero_le (show 0 ≤ a2 by omega)
    exact late w a0 a1 n (by omega) (by omega) (by omega) (by omega) (by omega) (by omega)

theorem own : ownKnob Try.prog.godebug = none := by kernel_rfl
theorem laidOut : laidOutB Try.prog = true := by kernel_rfl

set_option maxRecDepth 100000 in
theorem lifted (os : Os) (started : os.Started) (H : Type) (enc : TypeId × Value → H) :
    ReturnsInHanded {} Try.checked os 5 .any (Rows.nonceOnceSpec.pre6 enc Try.prog Try.f5 Rows.nonceOnceRow.domain false) (Rows.nonceOnceSpec.post enc Try.prog Try.f5 false true false false) := by
  refine returnsInHanded_of_change (C := Try.checked) own started (by kernel_rfl) Try.func5
    (ChangeSpec.witness6 (enc := enc) (C := Try.checked) false ⟨#[], #[.int .i64 0, .int .i64 0, .int .i64 0], []⟩ 8 (by kernel_rfl) (by kernel_rfl) (by kernel_rfl) (by kernel_rfl)) ?_
  intro W base args ds gs before hval0 hW hcnd _
  have hval : ∀ (j : Nat) t v, Try.f5.params[j]? = some t → args[j]? = some v → Value.okWide Try.prog W .any base t v := hval0
  have hW' := hW
  obtain ⟨p, q, hA0, hV, rfl, hfz, hnd⟩ := hW
  have hA : DataW.TrodAll enc Try.prog W 0 (fun _ => true) true Try.f5.params.toList args.toList ds p := hA0
  rw [Try.params5] at hA hval
  obtain ⟨v0, vs0, d0, ds0, p0, q0, hargs, rfl, rfl, h0, r0⟩ := trodAll_cons hA
  obtain ⟨v1, vs1, d1, ds1, p1, q1, rfl, rfl, rfl, h1, r1⟩ := trodAll_cons r0
  obtain ⟨v2, vs2, d2, ds2, p2, q2, rfl, rfl, rfl, h2, r2⟩ := trodAll_cons r1
  obtain ⟨rfl, rfl, rfl⟩ := trodAll_nil r2
  obtain rfl : args = #[v0, v1, v2] := by cases args; simp_all
  obtain ⟨rfl, rfl⟩ := trodVars_none hV
  obtain ⟨a0, rfl, rfl, rfl, w0⟩ := open_int Try.underlying3 (hval 0 3 v0 rfl rfl) h0
  obtain ⟨a1, rfl, rfl, rfl, w1⟩ := open_int Try.underlying3 (hval 1 3 v1 rfl rfl) h1
  obtain ⟨a2, rfl, rfl, rfl, w2⟩ := open_int Try.underlying3 (hval 2 3 v2 rfl rfl) h2
  clear hA0 hval0
  refine (walk W a0 a1 a2 w0 w1 w2).mono fun e W' ⟨he, bel⟩ => ?_
  subst he
  exact ⟨_, rfl, _, _, _, [], _, [], hW', trodAll_mk1 (shut_bool Try.underlying4 _), (trodAll_cons_mk (shut_int Try.underlying3 w0) (trodAll_cons_mk (shut_int Try.underlying3 w1) (trodAll_cons_mk (shut_int Try.underlying3 w2) trodAll_mk0))), rfl, bel.frame _, fun h => by cases h⟩

theorem over : Rows.nonceOnceRow.holds Try.pinned (OpenSpec.ofChange Rows.nonceOnceSpec) :=
  OpenClaim.holds_of_wide 5 Try.f5 rfl rfl rfl rfl rfl rfl rfl ⟨rfl, rfl, rfl, rfl, rfl⟩ rfl rfl rfl rfl rfl (by kernel_rfl) Try.func5 (by kernel_rfl)
    (of_decide_eq_true (by kernel_rfl)) (by unfold Func.isWrapper; first | (rw [if_pos (by decide +kernel)]; kernel_rfl) | (rw [if_neg (by decide +kernel)]; exact ⟨rfl, rfl⟩))
    (fun os started H enc _ => lifted os started H enc)

theorem proved : Rows.NonceOnceSaid := over
end Go.Proofs.Ythmpkalalceapaa.nonceOnce
namespace Go.Proofs.Ythmpkalalceapaa
theorem nonceOnce_holds : Rows.NonceOnceSaid := nonceOnce.proved
#print axioms nonceOnce_holds
end Go.Proofs.Ythmpkalalceapaa
