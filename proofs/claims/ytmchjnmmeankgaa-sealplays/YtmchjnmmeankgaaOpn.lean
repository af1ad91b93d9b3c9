/- The contract of Open. -/
import Derived.Test.YtmchjnmmeankgaaSlo
namespace Go.Proofs.Ytmchjnmmeankgaa.st
open Go.ChangeShapes Go.WideShapes Go.ChangeAt Go.RowKit Go.Proofs.Ytmchjnmmeankgaa.hp Go.Proofs.Ytmchjnmmeankgaa.dg
set_option linter.unusedVariables false

theorem fits_small {a : Int} (h0 : 0 ≤ a) (h1 : a ≤ 1099511627776) : (Lit.int .i64 a).wf = true := by
  have e1 : IntKind.i64.min = -9223372036854775808 := by decide
  have e2 : IntKind.i64.max = 9223372036854775807 := by decide
  simp [Lit.wf, e1, e2]
  omega

theorem fits_may {g c : Int} (h : may g c = true) : Fits (g, c) := by
  obtain ⟨h0, h1, h2, h3⟩ := may_of h
  exact ⟨fits_small h0 h1, fits_small h2 h3⟩

/-- The nonce of a cell. -/
def cellG (zs : List Int) : Int := pg (zs.take 12)
def cellC (zs : List Int) : Int := pc (zs.take 12)

/-- What opening tells: why not (0: it is opened), and the text. -/
def OS.code (S : OS) (zs : List Int) : Int := if zs.length ≠ 12 + S.L then 2 else if may (cellG zs) (cellC zs) = false then 2 else if cellG zs = 0 then 0 else if S.knows (cellG zs, cellC zs) then 0 else 5
def OS.text (S : OS) (zs : List Int) : List Int := if zs.length ≠ 12 + S.L then [] else if may (cellG zs) (cellC zs) = false then [] else if cellG zs = 0 then List.replicate S.L 0 else if S.knows (cellG zs, cellC zs) then xor2 (zs.drop 12) (S.padOf (cellG zs, cellC zs)) else []

/-- What Open leaves. -/
def Opened (S : OS) (zs : List Int) (w : World) (e : Ending) (w' : World) : Prop := ∃ v, e = .returned (.tuple #[v, .int .i64 (S.code zs)]) ∧ New w (S.text zs) v w'

theorem new_nil {w w' : World} (k : Chg no w w') : New w [] (.slice none 0 0) w' := ⟨World.ownsRow_nil _ _ _ _, k⟩

theorem new_zeros {w w2 : World} {b L : Nat} {v : Value} (ho : w2.ownsRow b 5 1 v L (madeCells #[Value.int .u8 0] L).toList) (hb : w.heap.size ≤ b) (k2 : Chg no w w2) : New w (List.replicate L 0) v w2 := by
  have := owns_base ho hb
  rw [toList_madeCells_one] at this
  refine ⟨?_, k2⟩
  simpa using this

theorem open_len {w : World} {p q : Nat} {F : Nat → Prop} {S : OS} (h : Orc p q S w F) (hL : S.L ≤ 4000) (x : Option Addr) (cx : Nat) (zs : List Int) (hl : zs.length ≠ 12 + S.L) (hz : zs.length ≤ 100000000) :
    Calls Try.prog 17 #[.pointer (some ⟨p, 0, none⟩), .slice x zs.length cx] w (Opened S zs w) := by
  have e1 : S.code zs = 2 := by unfold OS.code; rw [if_pos hl]
  have e2 : S.text zs = [] := by unfold OS.text; rw [if_pos hl]
  unfold Opened
  rw [e1, e2]
  obtain ⟨b, tv, pv, kv, I, h⟩ := h
  obtain ⟨c0, c1, c2, c3, f3⟩ := h.cells
  have hpl := h.lt p h.fp
  obtain ⟨n, hn⟩ : ∃ n, zs.length = n := ⟨_, rfl⟩
  rw [hn] at hl hz ⊢
  have hne : ((n : Int) == 12 + (S.L : Int)) = false := by simp; omega
  have hLi : (S.L : Int) ≤ 4000 := by omega
  clear h hl hn e1 e2
  go_enter Try.func17, Try.ntmps17
  go_wp2
  go_ret2
  exact ⟨_, rfl, new_nil (Chg.refl no w)⟩

set_option maxRecDepth 100000 in
set_option maxHeartbeats 4000000 in
theorem open_err {w : World} {p q : Nat} {F J : Nat → Prop} {S : OS} (h : Orc p q S w F) (hok : S.Ok) (x : Option Addr) (cx : Nat) (zs : List Int) (hl : zs.length = 12 + S.L) (ht : Lies J w (.slice x zs.length cx) (zs.map (Value.int .u8))) (hb : Bytes zs) (hc1 : zs.length ≤ cx) (hc2 : cx ≤ maxLen)
    (hk : cellG zs = 0 ∨ may (cellG zs) (cellC zs) = false ∨ S.knows (cellG zs, cellC zs) = false) :
    Calls Try.prog 17 #[.pointer (some ⟨p, 0, none⟩), .slice x zs.length cx] w (Opened S zs w) := by
  have hf := lies_front ht (n := 12) (by simp; omega)
  rw [← List.map_take] at hf
  have HP := parse_12 w (.slice x 12 cx) (zs.take 12) hf (hb.take 12) (by simp; omega)
  have e1 : S.code zs = if may (cellG zs) (cellC zs) = false then 2 else if cellG zs = 0 then 0 else if S.knows (cellG zs, cellC zs) then 0 else 5 := by unfold OS.code; rw [if_neg (by simp [hl])]
  have e2 : S.text zs = if may (cellG zs) (cellC zs) = false then [] else if cellG zs = 0 then List.replicate S.L 0 else if S.knows (cellG zs, cellC zs) then xor2 (zs.drop 12) (S.padOf (cellG zs, cellC zs)) else [] := by unfold OS.text; rw [if_neg (by simp [hl])]
  unfold Opened
  rw [e1, e2]
  have hpg : pg (zs.take 12) = cellG zs := rfl
  have hpc : pc (zs.take 12) = cellC zs := rfl
  rw [hpg, hpc] at HP
  obtain ⟨G, hG⟩ : ∃ G, cellG zs = G := ⟨_, rfl⟩
  obtain ⟨C, hC⟩ : ∃ C, cellC zs = C := ⟨_, rfl⟩
  rw [hG, hC] at HP hk ⊢
  have HH : Hid (∀ w1, Chg no w w1 → w1.cell? ⟨p, 1, none⟩ = some (.int .i64 S.L) ∧ p < w1.heap.size ∧ (Fits (G, C) → Calls Try.prog 21 #[.pointer (some ⟨p, 0, none⟩), nv G C] w1 fun e w' => e = .returned (.bool (S.knows (G, C))) ∧ Chg no w1 w')) := by
    intro w1 k
    have h1 := h.chg k (fun _ _ h => h)
    refine ⟨?_, h1.plt, fun hn => known_any h1 G C hn⟩
    obtain ⟨b, tv, pv, kv, I, h1⟩ := h1
    exact h1.cells.2.1
  obtain ⟨c1, hpl, _⟩ := HH.out w (Chg.refl no w)
  rw [hl] at hc1 ⊢
  have l1 := hok.l1
  have l2 := hok.l2
  have hLi : (S.L : Int) ≤ 4000 := by omega
  have hci : (12 : Int) + S.L ≤ cx := by omega
  have hci2 : (cx : Int) ≤ 9223372036854775807 := by unfold maxLen at hc2; omega
  obtain ⟨i0, hi0, hz0, hz1, hz2⟩ := info_parts info5
  clear h ht hf hG hC hpg hpc e1 e2 hok hb hl
  cases hm : may G C with
  | false =>
    have HP2 : Calls Try.prog 35 #[.slice x 12 cx] w fun e w' => e = .returned (.tuple #[nv 0 0, .int .i64 2]) ∧ Chg no w w' := HP.mono (fun e w' ⟨_, a2, a3⟩ => ⟨a2 hm, a3⟩)
    simp only [if_true]
    clear HP hk HH
    go_enter Try.func17, Try.ntmps17
    go_wp2_with fail
    refine HP2.mono ?_
    rintro e w1 ⟨rfl, k1⟩
    clear HP2
    go_wp2
    go_ret2
    exact ⟨_, rfl, new_nil (k1.alloc _)⟩
  | true =>
    have HP2 : Calls Try.prog 35 #[.slice x 12 cx] w fun e w' => e = .returned (.tuple #[nv G C, .int .i64 0]) ∧ Chg no w w' := HP.mono (fun e w' ⟨a1, _, a3⟩ => ⟨a1 hm, a3⟩)
    simp only [Bool.true_eq_false, if_false]
    by_cases hg : G = 0
    · subst hg
      simp only [if_true]
      clear HP hk
      go_enter Try.func17, Try.ntmps17
      go_wp2_with fail
      refine HP2.mono ?_
      rintro e w1 ⟨rfl, k1⟩
      obtain ⟨d1, dp, _⟩ := HH.out (w1.alloc (.cells #[.int .i64 0, .int .i64 C] 40)) (k1.alloc _)
      have K : Chg no w (w1.alloc (.cells #[.int .i64 0, .int .i64 C] 40)) := k1.alloc _
      have hpl1 : p < w1.heap.size := (HH.out _ k1).2.1
      have HK : Hid (Chg no w (w1.alloc (.cells #[.int .i64 0, .int .i64 C] 40))) := K
      have HKS : Hid (w.heap.size ≤ w1.heap.size) := k1.size
      clear HP2 HH K k1
      go_wp2_with (at_make; refine wpList_make_full _ rfl _ _ 22 rfl w1.heap.size 5 i0 (.int .u8 0) 1 Try.underlying22 hi0 hz0 hz1 .i64 .i64 S.L S.L S.L rfl rfl rfl rfl ?c1 ?c2 ?c3 ?_)
      case c1 => rw [hz2]; omega
      case c2 => unfold maxLen; omega
      case c3 => simp
      intro w2 hown hg
      have HO : Hid (w2.ownsRow w1.heap.size 5 1 (.slice (some ⟨w1.heap.size + 1, 0, none⟩) S.L S.L) S.L (madeCells #[Value.int .u8 0] S.L).toList) := hown
      have HG : Hid _ := hg
      clear hown hg
      go_wp2
      go_ret2
      exact ⟨_, rfl, new_zeros HO.out HKS.out (HK.out.grown HG.out (by simp))⟩
    · have hgb : (G == 0) = false := by simpa using hg
      have hkn : S.knows (G, C) = false := by
        rcases hk with e | e | e
        · exact absurd e hg
        · rw [hm] at e; cases e
        · exact e
      rw [if_neg hg, if_neg hg]
      have hft := fits_may hm
      simp only [hkn, Bool.false_eq_true, if_false] at HH ⊢
      clear HP hk hm
      go_enter Try.func17, Try.ntmps17
      go_wp2_with fail
      refine HP2.mono ?_
      rintro e w1 ⟨rfl, k1⟩
      have K : Chg no w (w1.alloc (.cells #[.int .i64 G, .int .i64 C] 40)) := k1.alloc _
      obtain ⟨d1, dp, HKN⟩ := HH.out _ K
      have HKN := HKN hft
      have hpl1 : p < w1.heap.size := (HH.out _ k1).2.1
      clear HP2 HH
      go_wp2_with fail
      refine HKN.mono ?_
      rintro e w2 ⟨rfl, k2⟩
      go_wp2
      go_ret2
      exact ⟨_, rfl, new_nil (K.then k2)⟩

set_option maxRecDepth 100000 in
set_option maxHeartbeats 4000000 in
theorem open_ok {w : World} {p q : Nat} {F J : Nat → Prop} {S : OS} (h : Orc p q S w F) (hok : S.Ok) (x : Option Addr) (cx : Nat) (zs : List Int) (hl : zs.length = 12 + S.L) (ht : Lies J w (.slice x zs.length cx) (zs.map (Value.int .u8))) (hb : Bytes zs) (hc1 : zs.length ≤ cx) (hc2 : cx ≤ maxLen)
    (hg : cellG zs ≠ 0) (hm : may (cellG zs) (cellC zs) = true) (hk : S.knows (cellG zs, cellC zs) = true) :
    Calls Try.prog 17 #[.pointer (some ⟨p, 0, none⟩), .slice x zs.length cx] w (Opened S zs w) := by
  have hf := lies_front ht (n := 12) (by simp; omega)
  rw [← List.map_take] at hf
  have HP := parse_12 w (.slice x 12 cx) (zs.take 12) hf (hb.take 12) (by simp; omega)
  have hkb := lies_back ht (n := 12) (by simp; omega)
  have ha : (fun y : Addr => y.add 12) = fun y => ⟨y.block, y.off + 12, none⟩ := by
    funext y
    simp [Addr.add]
  rw [ha, ← List.map_drop] at hkb
  have e1 : S.code zs = 0 := by unfold OS.code; rw [if_neg (by simp [hl]), if_neg (by simp [hm]), if_neg hg, if_pos hk]
  have e2 : S.text zs = xor2 (zs.drop 12) (S.padOf (cellG zs, cellC zs)) := by unfold OS.text; rw [if_neg (by simp [hl]), if_neg (by simp [hm]), if_neg hg, if_pos hk]
  unfold Opened
  rw [e1, e2]
  have hpg : pg (zs.take 12) = cellG zs := rfl
  have hpc : pc (zs.take 12) = cellC zs := rfl
  rw [hpg, hpc] at HP
  obtain ⟨G, hG⟩ : ∃ G, cellG zs = G := ⟨_, rfl⟩
  obtain ⟨C, hC⟩ : ∃ C, cellC zs = C := ⟨_, rfl⟩
  rw [hG, hC] at HP hk hm ⊢
  rw [hG] at hg
  have hft := fits_may hm
  have HPD : Hid ((S.padOf (G, C)).length = S.L) := S.padOf_length _
  have HH : Hid (∀ w1, Chg no w w1 → w1.cell? ⟨p, 1, none⟩ = some (.int .i64 S.L) ∧ p < w1.heap.size ∧ (Calls Try.prog 21 #[.pointer (some ⟨p, 0, none⟩), nv G C] w1 fun e w' => e = .returned (.bool true) ∧ Chg no w1 w') ∧ Calls Try.prog 19 #[.pointer (some ⟨p, 0, none⟩), nv G C] w1 fun e w' => ∃ v, e = .returned v ∧ New w1 (S.padOf (G, C)) v w') := by
    intro w1 k
    have h1 := h.chg k (fun _ _ h => h)
    have h3 := known_any h1 G C hft
    rw [hk] at h3
    refine ⟨?_, h1.plt, h3, pad_old h1 hok G C hft (of_decide_eq_true hk)⟩
    obtain ⟨b, tv, pv, kv, I, h1⟩ := h1
    exact h1.cells.2.1
  obtain ⟨pad, hpad⟩ : ∃ pad, S.padOf (G, C) = pad := ⟨_, rfl⟩
  rw [hpad] at HH HPD ⊢
  obtain ⟨tx, htx⟩ : ∃ tx, zs.drop 12 = tx := ⟨_, rfl⟩
  rw [htx] at hkb ⊢
  have HTX : Hid (tx.length = S.L) := by
    have := congrArg List.length htx
    rw [List.length_drop] at this
    show tx.length = S.L
    omega
  obtain ⟨c1, hpl, _⟩ := HH.out w (Chg.refl no w)
  rw [hl] at hc1 hkb ⊢
  rw [show 12 + S.L - 12 = S.L by omega] at hkb
  have HKB : Hid (Lies J w (.slice (x.map fun y => ⟨y.block, y.off + 12, none⟩) S.L (cx - 12)) (tx.map (Value.int .u8))) := hkb
  have l1 := hok.l1
  have l2 := hok.l2
  have hLi : (S.L : Int) ≤ 4000 := by omega
  have hLi1 : (1 : Int) ≤ S.L := by omega
  have hci : (12 : Int) + S.L ≤ cx := by omega
  have hci2 : (cx : Int) ≤ 9223372036854775807 := by unfold maxLen at hc2; omega
  have HP2 : Calls Try.prog 35 #[.slice x 12 cx] w fun e w' => e = .returned (.tuple #[nv G C, .int .i64 0]) ∧ Chg no w w' := HP.mono (fun e w' ⟨a1, _, a3⟩ => ⟨a1 hm, a3⟩)
  have hgb : (G == 0) = false := by simpa using hg
  clear h ht hf hG hC hpg hpc e1 e2 hok hb hl hpad htx hkb ha HP hk hm hg hft
  go_enter Try.func17, Try.ntmps17
  go_wp2_with fail
  refine HP2.mono ?_
  rintro e w1 ⟨rfl, k1⟩
  have K : Chg no w (w1.alloc (.cells #[.int .i64 G, .int .i64 C] 40)) := k1.alloc _
  obtain ⟨d1, dp, HKN, _⟩ := HH.out _ K
  have hpl1 : p < w1.heap.size := (HH.out _ k1).2.1
  have HB1 : Hid ((w1.alloc (.cells #[.int .i64 G, .int .i64 C] 40)).heap[w1.heap.size]? = some (.cells #[.int .i64 G, .int .i64 C] 40 (0, 0))) := heap_alloc_new _ _
  clear HP2
  go_wp2_with fail
  refine HKN.mono ?_
  rintro e w2 ⟨rfl, k2⟩
  have K2 := K.then k2
  have g2 := k2.heap HB1.out id
  clear HKN HB1 d1 dp
  go_wp2_with fail
  obtain ⟨N, hN⟩ : ∃ N, w1.heap.size = N := ⟨_, rfl⟩
  rw [hN] at g2 ⊢
  clear hN
  obtain ⟨pG, hpG⟩ : ∃ pG : World → Prop, ∀ w', pG w' ↔ w'.heap[N]? = some (.cells #[.int .i64 G, .int .i64 C] 40 (0, 0)) := ⟨_, fun _ => Iff.rfl⟩
  have xN0 : ∀ x' : far.InC pG, x'.w.cell? ⟨N, 0, none⟩ = some (.int .i64 G) := fun x => (row_cell (xs := [_, _]) ((hpG _).1 x.h) 0 _ rfl).1
  have xN1 : ∀ x' : far.InC pG, x'.w.cell? ⟨N, 1, none⟩ = some (.int .i64 C) := fun x => (row_cell (xs := [_, _]) ((hpG _).1 x.h) 1 _ rfl).1
  have iG : Nonempty (far.InC pG) := ⟨⟨w2, (hpG _).2 g2⟩⟩
  have HpG : Hid (∀ w', pG w' ↔ w'.heap[N]? = some (.cells #[.int .i64 G, .int .i64 C] 40 (0, 0))) := hpG
  have Y0 : Chg no w2 w2.drew := (Chg.refl no w2).drew
  have HGA : Hid (w2.heap[N]? = some (.cells #[.int .i64 G, .int .i64 C] 40 (0, 0))) := g2
  clear hpG g2
  refine far.region_farM (fun κ w' => pG w') [4, 5, 6] (by kernel_rfl) (by kernel_rfl) ((HpG.out _).2 (Y0.heap HGA.out id)) ?_
  intro L e1' e2' e3'
  refine far.farO_stretch pG 4 0 2 e1' e2' e3' (by kernel_rfl) (by kernel_rfl) (fun κ w' hk1 hk2 hC => hC) ?_
  simp only [List.take_succ_cons, List.take_zero, List.drop_succ_cons, List.drop_zero, Nat.reduceAdd]
  repeat (go_big_quiet_step (fail))
  refine wpQuiet_nil ?_
  refine far.farO_enter e1' e2' 0 rfl rfl 19 #[.pointer (some ⟨p, 0, none⟩), nv G C] (by kernel_rfl) (by kernel_rfl) ?_
  refine ((HH.out _ (K2.drew)).2.2.2).mono ?_
  rintro e wb ⟨vb, rfl, Nb⟩
  have gb := Nb.2.heap (Y0.heap HGA.out id) id
  refine ⟨_, rfl, (HpG.out _).2 gb, ?_⟩
  obtain ⟨xb, cb, rfl⟩ := Nb.shape
  simp only [HPD.out] at Nb ⊢
  simp only [Act.put, List.setIfInBounds_toArray, List.set_cons_succ, List.set_cons_zero, Nat.reduceAdd]
  refine farO_does e1' e2' 1 rfl rfl (w' := wb.alloc (.cells #[.slice xb S.L cb] 22)) (.slice (some ⟨wb.heap.size, 0, none⟩) 1 1) (by kernel_rfl) (by go_simp) ?_ ?_
  · exact (HpG.out _).2 (((Chg.refl no wb).alloc _).heap gb id)
  simp only [Act.put, List.setIfInBounds_toArray, List.set_cons_succ, List.set_cons_zero, Nat.reduceAdd]
  have CB : Chg no w wb := K2.drew.then Nb.2
  have HX := xor_one wb _ (.slice xb S.L cb) tx pad ((HKB.out.chg CB (fun _ _ h => h)).mono (fun _ _ => trivial)) (Nb.lies.mono (fun _ _ => trivial)) (by have := HTX.out; omega) (by have := HPD.out; omega)
  refine far.farO_enter e1' e2' 2 rfl rfl 26 #[.slice (x.map fun y => ⟨y.block, y.off + 12, none⟩) S.L (cx - 12), .slice (some ⟨wb.heap.size, 0, none⟩) 1 1] (by kernel_rfl) (by kernel_rfl) ?_
  refine HX.mono ?_
  rintro e wc ⟨vc, rfl, Nc⟩
  refine ⟨_, rfl, (HpG.out _).2 (Nc.2.heap gb id), ?_⟩
  obtain ⟨xc, cc, rfl⟩ := Nc.shape
  obtain ⟨CZ, hCZ⟩ : ∃ CZ, xor2 tx pad = CZ := ⟨_, rfl⟩
  rw [hCZ] at Nc ⊢
  simp only [Act.put, List.setIfInBounds_toArray, List.set_cons_succ, List.set_cons_zero, Nat.reduceAdd]
  have HE : Hid (New w CZ (.slice xc CZ.length cc) wc) := New.behind Nc CB
  clear HX Nc CB Nb gb HH
  refine far.farO_stretch pG 2 3 3 e1' e2' e3' (by kernel_rfl) (by kernel_rfl) (fun κ w' hk1 hk2 hC => hC) ?_
  simp only [List.take_succ_cons, List.take_zero, List.drop_succ_cons, List.drop_zero, Nat.reduceAdd]
  repeat (go_big_quiet_step (fail))
  refine wpQuiet_nil ?_
  refine far.farO_nil ?_
  go_wp2
  go_ret2
  exact ⟨_, rfl, by rw [hCZ]; exact HE.out⟩

/-- Open, at any cell. -/
theorem open_any {w : World} {p q : Nat} {F J : Nat → Prop} {S : OS} (h : Orc p q S w F) (hok : S.Ok) (x : Option Addr) (cx : Nat) (zs : List Int) (hz : zs.length ≤ 100000000) (ht : Lies J w (.slice x zs.length cx) (zs.map (Value.int .u8))) (hb : Bytes zs) (hc1 : zs.length ≤ cx) (hc2 : cx ≤ maxLen) :
    Calls Try.prog 17 #[.pointer (some ⟨p, 0, none⟩), .slice x zs.length cx] w (Opened S zs w) := by
  by_cases hl : zs.length = 12 + S.L
  · by_cases hk : cellG zs = 0 ∨ may (cellG zs) (cellC zs) = false ∨ S.knows (cellG zs, cellC zs) = false
    · exact open_err h hok x cx zs hl ht hb hc1 hc2 hk
    · simp only [not_or, Bool.not_eq_false] at hk
      exact open_ok h hok x cx zs hl ht hb hc1 hc2 hk.1 hk.2.1 hk.2.2
  · exact open_len h hok.l2 x cx zs hl hz

end Go.Proofs.Ytmchjnmmeankgaa.st
