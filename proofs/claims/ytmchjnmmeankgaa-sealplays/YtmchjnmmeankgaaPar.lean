/- Contracts of Parse, of the document's ParseNonce; of first. -/
import Derived.Test.YtmchjnmmeankgaaRby
import Derived.Test.YtmchjnmmeankgaaFar
namespace Go.Proofs.Ytmchjnmmeankgaa.st
open Go.ChangeShapes Go.WideShapes Go.ChangeAt Go.RowKit Go.Proofs.Ytmchjnmmeankgaa.hp Go.Proofs.Ytmchjnmmeankgaa.dg
set_option linter.unusedVariables false

/-- A mover that is no call: it yields a value, and the world that it leaves. -/
theorem farO_does {P : Program} {ops : Array Oper} {L : far.Plan} {Q : Act → World → Prop} {k : Nat} {o : Oper} {r : List Oper} {a : Act} {w w' : World} {C : Nat → World → Prop} {ms : List Nat} (h1 : L.C = C) (h2 : L.ms = ms) (j : Nat) (hj : ms.contains k = true) (hj' : ms.idxOf k = j)
    (v : Value) (hw : Region.wanted o (yielded ops a.tmps) = true) (hrun : (execOp a.eval o).run P w = .ok (.value v) w') (hC : C (j + 1) w') (h : far.farO L P ops Q (k + 1) r (a.put o.dst v) w') : far.farO L P ops Q k (o :: r) a w := by
  simp only [far.farO]
  rw [if_pos hw, if_pos (by rw [h2]; exact hj)]
  unfold far.Moves
  rw [hrun, h1, h2, hj']
  exact ⟨hC, h⟩

/-- What twelve bytes tell. -/
def pg (zs : List Int) : Int := told (zs.take 6)
def pc (zs : List Int) : Int := told (zs.drop 6)
def pok (zs : List Int) : Bool := decide (zs.length = 12) && may (pg zs) (pc zs)

theorem tak6 (zs : List Int) (h : 6 ≤ zs.length) : tval (zs, 0) 6 = told (zs.take 6) ∧ tak (zs, 0) 6 (isw 6) = (zs.drop 6, 0) := by
  have ht : tak (zs, 0) 6 (isw 6) = (zs.drop 6, 0) := by
    unfold tak
    have e : isw 6 = true := by decide
    rw [e]
    rw [if_neg (by simp), if_neg (by simp), if_neg (by simp; omega)]
    rfl
  refine ⟨?_, ht⟩
  unfold tval
  rw [ht, if_pos rfl]
  rfl

theorem parse_len (w : World) {J : Nat → Prop} (v : Value) (zs : List Int) (hv : Lies J w v (zs.map (Value.int .u8))) (hl : zs.length ≠ 12) :
    Calls Try.prog 35 #[v] w fun e w' => e = .returned (.tuple #[nv 0 0, .int .i64 2]) ∧ Chg no w w' := by
  obtain ⟨x, c, rfl, _⟩ := hv.slice
  simp only [List.length_map]
  obtain ⟨L, hL⟩ : ∃ L, zs.length = L := ⟨_, rfl⟩
  rw [hL] at hl ⊢
  have hli : ((L : Int) == 12) = false := by simp; omega
  clear hv
  go_enter Try.func35, Try.ntmps35
  go_wp2
  have hres : Try.f35.results = #[.cell 2 40, .tmp 3] := by kernel_rfl
  refine bodyPost_ret (v := .tuple #[nv 0 0, .int .i64 2]) ?_ rfl ⟨rfl, ?_⟩
  · simp only [results, hres]
    go_simp
  · exact (Chg.refl no w).alloc _

set_option maxHeartbeats 1000000 in
theorem parse_12 (w : World) {J : Nat → Prop} (v : Value) (zs : List Int) (hv : Lies J w v (zs.map (Value.int .u8))) (hb : Bytes zs) (hl : zs.length = 12) :
    Calls Try.prog 35 #[v] w fun e w' => (may (pg zs) (pc zs) = true → e = .returned (.tuple #[nv (pg zs) (pc zs), .int .i64 0])) ∧ (may (pg zs) (pc zs) = false → e = .returned (.tuple #[nv 0 0, .int .i64 2])) ∧ Chg no w w' := by
  have HR := newReader_any (w.alloc (.cells #[.int .i64 0, .int .i64 0] 40)) v zs (hv.chg ((Chg.refl no w).alloc _) (fun _ _ h => h)) hb (by omega)
  obtain ⟨t1, t2⟩ := tak6 zs (by omega)
  obtain ⟨t3, t4⟩ := tak6 (zs.drop 6) (by simp; omega)
  have e5 : (zs.drop 6).take 6 = zs.drop 6 := List.take_of_length_le (by simp; omega)
  rw [e5] at t3
  obtain ⟨A, hA⟩ : ∃ A, pg zs = A := ⟨_, rfl⟩
  obtain ⟨B, hB⟩ : ∃ B, pc zs = B := ⟨_, rfl⟩
  have t1' : tval (zs, 0) 6 = A := by rw [t1, ← hA]; rfl
  have t3' : tval (zs.drop 6, 0) 6 = B := by rw [t3, ← hB]; rfl
  rw [hA, hB]
  have HM := fun w => may_any w A B
  obtain ⟨x, c, rfl, _⟩ := hv.slice
  simp only [List.length_map, hl] at HR ⊢
  clear hv hb t1 t3 e5 hA hB
  go_enter Try.func35, Try.ntmps35
  go_wp2_with fail
  refine HR.mono ?_
  rintro e w1 ⟨p, rfl, hR, k1⟩
  have N1 := rnum_r (s := (zs, 0)) hR 6
  rw [t1', t2] at N1
  have g0 : w1.heap[w.heap.size]? = some (.cells #[.int .i64 0, .int .i64 0] 40 (0, 0)) := k1.heap (heap_alloc_new _ _) id
  have hp : w.heap.size + 1 ≤ p := by have := hR.fp.1; simpa using this
  have K1 : Chg no w w1 := ((Chg.refl no w).alloc _).then k1
  clear HR hR k1 t1' t2
  go_wp2_with fail
  refine N1.mono ?_
  rintro e w2 ⟨rfl, hR2, c2⟩
  have N2 := rnum_r (s := (zs.drop 6, 0)) hR2 6
  rw [t3'] at N2
  have K2 : Chg no w w2 := K1.trans c2 (fun b hb => .inr (by omega))
  have g2 := c2.heap g0 (by omega)
  clear N1 hR2 c2 g0 t3'
  go_wp2_with fail
  refine N2.mono ?_
  rintro e w3 ⟨rfl, hR3, c3⟩
  have K3 : Chg no w w3 := K2.trans c3 (fun b hb => .inr (by omega))
  have g3 := c3.heap g2 (by omega)
  clear N2 hR3 c3 g2 K2 K1 hp
  have hlt3 := lt_of_block g3
  go_wp2_with fail
  refine (HM _).mono ?_
  rintro e w4 ⟨rfl, k4⟩
  have g4 := k4.heap (((Chg.refl no w3).alloc (.cells #[.int .i64 A, .int .i64 B] 40)).heap g3 id) id
  have g5 : w4.heap[w3.heap.size]? = some (.cells #[.int .i64 A, .int .i64 B] 40 (0, 0)) := k4.heap (heap_alloc_new _ _) id
  have K4 : Chg no w w4 := (K3.alloc _).then k4
  obtain ⟨a0, b0⟩ := row_cell (xs := [_, _]) g4 0 _ rfl
  obtain ⟨a1, b1⟩ := row_cell (xs := [_, _]) g4 1 _ rfl
  obtain ⟨d0, f0⟩ := row_cell (xs := [_, _]) g5 0 _ rfl
  obtain ⟨d1, f1⟩ := row_cell (xs := [_, _]) g5 1 _ rfl
  clear K3 HM g4 g5 g3 k4
  have hres : Try.f35.results = #[.cell 2 40, .tmp 3] := by kernel_rfl
  cases hm : may A B with
  | true =>
    go_wp2
    refine bodyPost_ret (v := .tuple #[nv A B, .int .i64 0]) ?_ rfl ⟨fun _ => rfl, fun h => (by simp [hm] at h), ?_⟩
    · simp only [results, hres]
      go_simp
    · exact (K4.setCell ⟨w.heap.size, 0, none⟩ (.int .i64 A) (.inr (Nat.le_refl _))).setCell ⟨w.heap.size, 1, none⟩ (.int .i64 B) (.inr (Nat.le_refl _))
  | false =>
    go_wp2
    refine bodyPost_ret (v := .tuple #[nv 0 0, .int .i64 2]) ?_ rfl ⟨fun h => (by simp [hm] at h), fun _ => rfl, ?_⟩
    · simp only [results, hres]
      go_simp
    · exact (K4.setCell ⟨w.heap.size, 0, none⟩ (.int .i64 0) (.inr (Nat.le_refl _))).setCell ⟨w.heap.size, 1, none⟩ (.int .i64 0) (.inr (Nat.le_refl _))

theorem rparse_len (w : World) {J : Nat → Prop} (v : Value) (zs : List Int) (hv : Lies J w v (zs.map (Value.int .u8))) (hl : zs.length ≠ 12) :
    Calls Try.prog 36 #[v] w fun e w' => e = .returned (.tuple #[nv 0 0, .bool false]) ∧ Chg no w w' := by
  obtain ⟨x, c, rfl, _⟩ := hv.slice
  simp only [List.length_map]
  obtain ⟨L, hL⟩ : ∃ L, zs.length = L := ⟨_, rfl⟩
  rw [hL] at hl ⊢
  have hli : ((L : Int) == 12) = false := by simp; omega
  clear hv
  go_enter Try.func36, Try.ntmps36
  go_wp2
  have hres : Try.f36.results = #[.cell 2 46, .tmp 3] := by kernel_rfl
  refine bodyPost_ret (v := .tuple #[nv 0 0, .bool false]) ?_ rfl ⟨rfl, ?_⟩
  · simp only [results, hres]
    go_simp
  · exact (Chg.refl no w).alloc _

set_option maxHeartbeats 2000000 in
theorem rparse_12 (w : World) {J : Nat → Prop} (x : Option Addr) (c : Nat) (zs : List Int) (hv : Lies J w (.slice x 12 c) (zs.map (Value.int .u8))) (hb : Bytes zs) (hl : zs.length = 12) (hc1 : 12 ≤ c) (hc2 : c ≤ 9223372036854775807) :
    Calls Try.prog 36 #[.slice x 12 c] w fun e w' => (may (pg zs) (pc zs) = true → e = .returned (.tuple #[nv (pg zs) (pc zs), .bool true])) ∧ (may (pg zs) (pc zs) = false → e = .returned (.tuple #[nv 0 0, .bool false])) ∧ Chg no w w' := by
  have hf := lies_front hv (n := 6) (by simp; omega)
  have hk := lies_back hv (n := 6) (by simp; omega)
  have ha : (fun y : Addr => y.add 6) = fun y => ⟨y.block, y.off + 6, none⟩ := by
    funext y
    simp [Addr.add]
  rw [ha] at hk
  rw [← List.map_take] at hf
  rw [← List.map_drop] at hk
  obtain ⟨A, hA⟩ : ∃ A, pg zs = A := ⟨_, rfl⟩
  obtain ⟨B, hB⟩ : ∃ B, pc zs = B := ⟨_, rfl⟩
  have HF : ∀ w', Chg no w w' → Calls Try.prog 48 #[.slice x 6 c] w' fun e w'' => e = .returned (.int .i64 A) ∧ w'' = w' := by
    intro w' k
    have := rnum_any w' _ _ (hf.chg k (fun _ _ h => h)) (hb.take 6) (by simp; omega) (by simp; omega)
    rw [← hA]
    exact this
  have HK : ∀ w', Chg no w w' → Calls Try.prog 48 #[.slice (x.map (fun y => ⟨y.block, y.off + 6, none⟩)) 6 (c - 6)] w' fun e w'' => e = .returned (.int .i64 B) ∧ w'' = w' := by
    intro w' k
    have := rnum_any w' _ _ (hk.chg k (fun _ _ h => h)) (hb.drop 6) (by simp; omega) (by simp; omega)
    rw [← hB]
    exact this
  rw [hA, hB]
  have HM := fun w => rmay_any w A B
  have i1 : (12 : Int) ≤ c := by omega
  have i2 : (c : Int) ≤ 9223372036854775807 := by omega
  have HF' : Hid (∀ w', Chg no w w' → Calls Try.prog 48 #[.slice x 6 c] w' fun e w'' => e = .returned (.int .i64 A) ∧ w'' = w') := HF
  have HK' : Hid (∀ w', Chg no w w' → Calls Try.prog 48 #[.slice (x.map (fun y => ⟨y.block, y.off + 6, none⟩)) 6 (c - 6)] w' fun e w'' => e = .returned (.int .i64 B) ∧ w'' = w') := HK
  clear hv hb hA hB hf hk HF HK ha
  go_enter Try.func36, Try.ntmps36
  go_wp2_with fail
  have hres : Try.f36.results = #[.cell 2 46, .tmp 3] := by kernel_rfl
  have k0 : Chg no w ((w.alloc (.cells #[.int .i64 0, .int .i64 0] 46)).alloc (.cells #[.int .i64 A, .int .i64 B] 46)).drew := (((Chg.refl no w).alloc _).alloc _).drew
  have g4 : ((w.alloc (.cells #[.int .i64 0, .int .i64 0] 46)).alloc (.cells #[.int .i64 A, .int .i64 B] 46)).drew.heap[w.heap.size]? = some (.cells #[.int .i64 0, .int .i64 0] 46 (0, 0)) := ((Chg.refl no (w.alloc (.cells #[.int .i64 0, .int .i64 0] 46))).alloc _).drew.heap (heap_alloc_new _ _) id
  have g5 : ((w.alloc (.cells #[.int .i64 0, .int .i64 0] 46)).alloc (.cells #[.int .i64 A, .int .i64 B] 46)).drew.heap[w.heap.size + 1]? = some (.cells #[.int .i64 A, .int .i64 B] 46 (0, 0)) := by
    have := heap_alloc_new (w.alloc (.cells #[.int .i64 0, .int .i64 0] 46)) (.cells #[.int .i64 A, .int .i64 B] 46)
    rw [show (w.alloc (.cells #[.int .i64 0, .int .i64 0] 46)).heap.size = w.heap.size + 1 by simp] at this
    exact this
  obtain ⟨W, hW⟩ : ∃ W, ((w.alloc (.cells #[.int .i64 0, .int .i64 0] 46)).alloc (.cells #[.int .i64 A, .int .i64 B] 46)).drew = W := ⟨_, rfl⟩
  simp only [hW] at k0 g4 g5
  have HK0 : Hid (Chg no w W) := k0
  have HG4 : Hid (W.heap[w.heap.size]? = some (.cells #[.int .i64 0, .int .i64 0] 46 (0, 0))) := g4
  have HG5 : Hid (W.heap[w.heap.size + 1]? = some (.cells #[.int .i64 A, .int .i64 B] 46 (0, 0))) := g5
  clear k0 g4 g5
  go_region_with (first
    | (go_at_call_of 48 (Value.slice x 6 c); refine (HF'.out _ ?_).mono ?_; (first | exact ((Chg.refl no w).alloc _).drew | exact (((Chg.refl no w).alloc _).alloc _).drew); rintro e w5 ⟨rfl, rfl⟩)
    | (go_at_call 48; refine (HK'.out _ ?_).mono ?_; (first | exact ((Chg.refl no w).alloc _).drew | exact (((Chg.refl no w).alloc _).alloc _).drew); rintro e w5 ⟨rfl, rfl⟩))
  all_goals
    try simp only [hW]
    clear HF' HK' hW
    obtain ⟨d0, f0⟩ := row_cell (xs := [_, _]) HG5.out 0 _ rfl
    obtain ⟨d1, f1⟩ := row_cell (xs := [_, _]) HG5.out 1 _ rfl
    go_wp2_with fail
    refine (HM _).mono ?_
    rintro e w4 ⟨rfl, k4⟩
    clear d0 d1 f0 f1
    have K4 : Chg no w w4 := HK0.out.then k4
    have g4 := k4.heap HG4.out id
    have g5 := k4.heap HG5.out id
    obtain ⟨a0, b0⟩ := row_cell (xs := [_, _]) g4 0 _ rfl
    obtain ⟨a1, b1⟩ := row_cell (xs := [_, _]) g4 1 _ rfl
    obtain ⟨d0, f0⟩ := row_cell (xs := [_, _]) g5 0 _ rfl
    obtain ⟨d1, f1⟩ := row_cell (xs := [_, _]) g5 1 _ rfl
    clear HM g4 g5 k4 HK0 HG4 HG5
    cases hm : may A B with
    | true =>
      go_wp2
      refine bodyPost_ret (v := .tuple #[nv A B, .bool true]) ?_ rfl ⟨fun _ => rfl, fun h => (by simp [hm] at h), ?_⟩
      · simp only [results, hres]
        go_simp
      · exact (K4.setCell ⟨w.heap.size, 0, none⟩ (.int .i64 A) (.inr (Nat.le_refl _))).setCell ⟨w.heap.size, 1, none⟩ (.int .i64 B) (.inr (Nat.le_refl _))
    | false =>
      go_wp2
      refine bodyPost_ret (v := .tuple #[nv 0 0, .bool false]) ?_ rfl ⟨fun h => (by simp [hm] at h), fun _ => rfl, ?_⟩
      · simp only [results, hres]
        go_simp
      · exact (K4.setCell ⟨w.heap.size, 0, none⟩ (.int .i64 0) (.inr (Nat.le_refl _))).setCell ⟨w.heap.size, 1, none⟩ (.int .i64 0) (.inr (Nat.le_refl _))

end Go.Proofs.Ytmchjnmmeankgaa.st
