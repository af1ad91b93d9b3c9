/-
  Proved: for every number, every byte and every block the law StashOwn returns true; no condition.
-/
import Derived.Test.YtedhlidmmmlemaaOws
import Derived.Test.YtedhlidmmmlemaaRows
import Derived.Lib.SmallJoins
import Derived.Deep.RegionHeld3
namespace Go.Proofs.Ytedhlidmmmlemaa.stashOwn
open Go.ChangeShapes Go.WideShapes Go.ChangeAt Go.RowKit Go.Proofs.Ytedhlidmmmlemaa.hp Go.Proofs.Ytedhlidmmmlemaa.st
set_option linter.unusedVariables false
set_option linter.unusedSimpArgs false

theorem cells36 : Try.prog.cellsOf 36 = 2 := by kernel_rfl

theorem open_block {H : Type} {enc : TypeId × Value → H} {w : World} {base : Nat} {r : Reach} {b0 : Nat} {v : Value} {d : DataW H} {p : List MemPlace} (hv : Value.okWide Try.prog w r b0 36 v) (h : DataW.Trod enc Try.prog w base (fun _ => true) true 36 v d p) :
    ∃ i a l c zs, v = bv i a l c ∧ zs.length = l ∧ Lies (Old w) w (.slice a l c) (zs.map (Value.int .u8)) ∧ Bytes zs := by
  obtain ⟨c0, c1, y0, y1, m, rfl, rfl, rfl, hy0, hy1⟩ := Joins.open_agg2 Try.underlying36 (by kernel_rfl) cells36 hv h
  obtain ⟨a, e0, _, _⟩ := DataW.trod_int Try.underlying3 hy0
  obtain ⟨zs, hL, hB⟩ := open_bytes hy1
  obtain ⟨b1, b2, hv', _⟩ := hL.slice
  simp only [List.length_map] at hv'
  simp at e0
  subst e0 hv'
  exact ⟨a, b1, zs.length, b2, zs, rfl, rfl, hL, hB⟩

theorem put_nil {b : Bk} (h : okB b) : putA [] b = [b] ∧ mostA [] 0 b = 1 := by
  have e : putL [] b = [b] := by unfold putL; simp
  refine ⟨?_, ?_⟩
  · unfold putA
    rw [if_pos h, e]
  · unfold mostA
    rw [if_pos h, e]
    rfl

theorem one_has (id : Int) (d : List Int) : hasL [(id, d)] id = true ∧ getL [(id, d)] id = (id, d) := by
  have hp : posL [(id, d)] id = 0 := by
    rw [pos_cons, if_neg (by simp)]
  have hh : hasL [(id, d)] id = true := by
    unfold hasL
    rw [hp]
    simp
  refine ⟨hh, ?_⟩
  unfold getL
  rw [hh, if_pos rfl, hp]
  rfl

theorem bytes_row {J : Nat → Prop} {w w1 : World} {a : Option Addr} {l c : Nat} {zs : List Int} (h : Lies J w (.slice a l c) (zs.map (Value.int .u8))) (hz : Bytes zs) (k : Chg no w w1) (ch : Int) (hc : 0 ≤ ch ∧ ch ≤ 255) (hb : w1.heap[w.heap.size]? = some (.cells ((rowL ch).map (Value.int .u8)).toArray 5 (0, 0))) :
    Calls Try.prog 15 #[.slice a l c, .slice (some ⟨w.heap.size, 0, none⟩) 37 37] w1 fun e w' => e = .returned (.bool (decide (zs = rowL ch))) ∧ w' = w1 := by
  have hL := lies_block hb 37
  rw [List.length_map, rowL_len] at hL
  exact bytes_any (h.chg k (fun _ _ h => h)) hL hz (rowL_bytes hc)

set_option maxHeartbeats 2000000 in
theorem early (w : World) (id c i : Int) (a : Option Addr) (l cp : Nat) (h : id < 0 ∨ 64 ≤ id) :
    Calls Try.prog 6 #[.int .i64 id, .int .u8 c, bv i a l cp] w fun e w' => e = .returned (.bool true) ∧ Below w.heap.size w w' := by
  have HF := first_any
  have hc : id < 0 ∨ (0 ≤ id ∧ 64 ≤ id) := by omega
  have K0 : Chg no w (w.alloc (.cells #[.int .i64 i, .slice a l cp] 36)) := (Chg.refl no w).alloc _
  rcases hc with h1 | ⟨h1, h2⟩
  all_goals
    go_enter Try.func6, Try.ntmps6
    go_wp2_with fail
    refine (HF _).mono ?_
    rintro e w1 ⟨rfl, k1⟩
    go_wp2_with fail
    refine (HF _).mono ?_
    rintro e w2 ⟨rfl, k2⟩
    go_wp2
    go_ret
    exact ⟨rfl, ((K0.then k1).then k2).below⟩

set_option maxRecDepth 100000 in
set_option maxHeartbeats 8000000 in
theorem late (w : World) (id c i : Int) (a : Option Addr) (l cp : Nat) (zs : List Int) (h1 : 0 ≤ id) (h2 : id < 64) (hc : 0 ≤ c ∧ c ≤ 255) (hl : zs.length = l) (hv : Lies (Old w) w (.slice a l cp) (zs.map (Value.int .u8))) (hb : Bytes zs) :
    Calls Try.prog 6 #[.int .i64 id, .int .u8 c, bv i a l cp] w fun e w' => e = .returned (.bool true) ∧ Below w.heap.size w w' := by
  have HF := first_any
  have HRow := fun W => row_any W c
  have K0 : Chg no w (w.alloc (.cells #[.int .i64 i, .slice a l cp] 36)) := (Chg.refl no w).alloc _
  have B0 := heap_alloc_new w (.cells #[.int .i64 i, .slice a l cp] 36)
  have HV : Hid (Lies (Old w) w (.slice a l cp) (zs.map (Value.int .u8))) := hv
  have HBy : Hid (Bytes zs) := hb
  have hok1 : okB (id, rowL c) := ⟨h1, h2, rowL_len c⟩
  have HOK1 : Hid (okB (id, rowL c)) := hok1
  have HFew : Hid (∀ (W : World) (g : Nat), Chg no w W → W.heap[g]? = some (.cells #[.int .i64 i, .slice a l cp] 36 (0, 0)) → Calls Try.prog 8 #[.slice (some ⟨g, 0, none⟩) 1 1] W (FewRes 1 W)) := by
    intro W g k hg
    rw [← hl] at hg
    exact few_any W _ _ (bks_one hg (Lies.later (by rw [hl]; exact HV.out) k) HBy.out)
  have HMay : Hid _ := may_built w i a l cp zs hv hb
  obtain ⟨B, hB⟩ : ∃ B, decide (okB (i, zs)) = B := ⟨_, rfl⟩
  have HB : Hid (decide (okB (i, zs)) = B) := hB
  rw [hB] at HMay
  have HL : Hid (zs.length = l) := hl
  clear hv hb hok1 hB hl
  go_enter Try.func6, Try.ntmps6
  go_wp2_with fail
  refine (HF _).mono ?_
  rintro e w1 ⟨rfl, k1⟩
  have K1 : Hid (Chg no w w1) := K0.then k1
  have B1 := k1.heap B0 (fun h => h)
  obtain ⟨q0, q1⟩ : w1.cell? ⟨w.heap.size, 0, none⟩ = some (.int .i64 i) ∧ w1.cell? ⟨w.heap.size, 1, none⟩ = some (.slice a l cp) := ⟨(row_cell (xs := [_, _]) B1 0 _ rfl).1, (row_cell (xs := [_, _]) B1 1 _ rfl).1⟩
  have q2 := lt_of_block B1
  have HB1 : Hid (w1.heap[w.heap.size]? = some (.cells #[.int .i64 i, .slice a l cp] 36 (0, 0))) := B1
  have HBx : Hid (∀ W, Chg no w1 W → W.cell? ⟨w.heap.size, 0, none⟩ = some (.int .i64 i) ∧ W.cell? ⟨w.heap.size, 1, none⟩ = some (.slice a l cp) ∧ w.heap.size < W.heap.size) := by
    intro W k
    have b := k.heap HB1.out (fun h => h)
    exact ⟨(row_cell (xs := [_, _]) b 0 _ rfl).1, (row_cell (xs := [_, _]) b 1 _ rfl).1, lt_of_block b⟩
  clear k1 B1 K0 B0
  go_wp2_with fail
  refine (HFew.out _ _ (K1.out.alloc _) (heap_alloc_new w1 _)).mono ?_
  rintro e w2 ⟨b, rfl, _, rfl⟩
  obtain ⟨r0, r1, r2⟩ := HBx.out (w1.alloc (.cells #[.int .i64 i, .slice a l cp] 36)) ((Chg.refl no w1).alloc _)
  cases b
  case false =>
    clear HFew HMay HBx HB1
    go_wp2_with fail
    refine (HF _).mono ?_
    rintro e w3 ⟨rfl, k3⟩
    go_wp2
    go_ret
    exact ⟨rfl, ((K1.out.alloc _).then k3).below⟩
  obtain ⟨w2, hw2⟩ : ∃ w2, w1.alloc (.cells #[.int .i64 i, .slice a l cp] 36) = w2 := ⟨_, rfl⟩
  have K2 : Hid (Chg no w w2) := by
    show Chg no w w2
    rw [← hw2]
    exact K1.out.alloc _
  have K12 : Hid (Chg no w1 w2) := by
    show Chg no w1 w2
    rw [← hw2]
    exact (Chg.refl no w1).alloc _
  simp only [hw2] at r0 r1 r2 ⊢
  clear hw2 q0 q1 q2 HFew
  go_wp2_with fail
  refine (HMay.out _ _ (K2.out.alloc _) (heap_alloc_new w2 _)).mono ?_
  rintro e w3 ⟨rfl, k3⟩
  have K3 : Hid (Chg no w w3) := (K2.out.alloc _).then k3
  have K13 : Hid (Chg no w1 w3) := (K12.out.alloc _).then k3
  clear k3 HMay K2 K12 r0 r1 r2
  cases B
  case true =>
    go_wp2_with fail
    refine (HF _).mono ?_
    rintro e w4 ⟨rfl, k4⟩
    go_wp2
    go_ret
    exact ⟨rfl, (K3.out.then k4).below⟩
  go_wp2_with fail
  refine (new_any w3 (.slice none 0 0) [] (Bks.nil w3) (by simp)).mono ?_
  rintro e w4 ⟨p, F, rfl, S4, hF4, k4⟩
  have HS4 : Hid (St 64 36 F p [] 0 w4) := S4
  have HF4 : Hid (∀ b, F b → w3.heap.size ≤ b) := hF4
  have K4 : Hid (Chg no w w4) := K3.out.then k4
  have K14 : Hid (Chg no w1 w4) := K13.out.then k4
  have s34 := k4.size
  have HS34 : Hid (w3.heap.size ≤ w4.heap.size) := s34
  clear S4 hF4 k4 s34
  go_wp2_with fail
  refine (HRow w4).mono ?_
  rintro e w5 ⟨rfl, b5, k5⟩
  have HP := put_row HS4.out id c hc k5 b5
  rw [decide_eq_true HOK1.out] at HP
  have K45 : Hid (Chg no w4 w5) := k5
  have HB5 : Hid (w5.heap[w4.heap.size]? = some (.cells ((rowL c).map (Value.int .u8)).toArray 5 (0, 0))) := b5
  clear b5 k5
  go_wp2_with fail
  refine HP.mono ?_
  rintro e w6 ⟨rfl, S6, k6⟩
  have HP1 : Hid (putA [] (id, rowL c) = [(id, rowL c)] ∧ mostA [] 0 (id, rowL c) = 1) := put_nil HOK1.out
  rw [HP1.out.1, HP1.out.2] at S6
  have HS6 : Hid (St 64 36 (Wid F w5 w6) p [(id, rowL c)] 1 w6) := S6
  have s45 := K45.out.size
  have K16 : Hid (Chg no w1 w6) := (K14.out.then K45.out).trans k6 (fun b hb => .inr (by have := HF4.out b hb; have := K13.out.size; omega))
  have K6 : Hid (Chg no w w6) := K1.out.then K16.out
  have HB6 : Hid (w6.heap[w4.heap.size]? = some (.cells ((rowL c).map (Value.int .u8)).toArray 5 (0, 0))) := k6.heap HB5.out (fun e => by have := HS4.out.lt _ e; omega)
  obtain ⟨r0, r1, r2⟩ := HBx.out w6 K16.out
  have HQ := put_any S6 i a l cp zs (Lies.later HV.out K6.out) HBy.out HL.out
  have hnok : ¬ okB (i, zs) := of_decide_eq_false HB.out
  have hpa : putA [(id, rowL c)] (i, zs) = [(id, rowL c)] := if_neg hnok
  have hma : mostA [(id, rowL c)] 1 (i, zs) = 1 := if_neg hnok
  rw [HB.out, hpa, hma] at HQ
  clear S6 k6 HP s45 hnok hpa hma
  go_wp2_with fail
  refine HQ.mono ?_
  rintro e w7 ⟨rfl, S7, k7⟩
  have hlt4 : w4.heap.size < w5.heap.size := lt_of_block HB5.out
  have hn4 : ¬ Wid (Wid F w5 w6) w6 w7 w4.heap.size := by
    have s1 := lt_of_block HB6.out
    rintro ((e | e) | e)
    · have := HS4.out.lt _ e
      omega
    · omega
    · omega
  have HN4 : Hid (¬ Wid (Wid F w5 w6) w6 w7 w4.heap.size) := hn4
  have b7 := k7.heap HB6.out (fun e => hn4 (.inl e))
  obtain ⟨t0, t1⟩ := row_cell b7 0 (.int .u8 c) (by simp [rowL])
  have t2 := lt_of_block b7
  have HS7 : Hid (St 64 36 (Wid (Wid F w5 w6) w6 w7) p [(id, rowL c)] 1 w7) := S7
  have HF7 : Hid (∀ b, Wid (Wid F w5 w6) w6 w7 b → w3.heap.size ≤ b) := by
    have z1 := K45.out.size
    have z2 := lt_of_block HB6.out
    have z0 := HS34.out
    rintro b ((e | e) | e)
    · exact HF4.out b e
    · have := e.1
      omega
    · have := e.1
      omega
  have K7 : Hid (Chg no w w7) := K6.out.trans k7 (fun b hb => .inr (by have := HF7.out b (.inl hb); have := K3.out.size; omega))
  obtain ⟨F7, hF7⟩ : ∃ F7, Wid (Wid F w5 w6) w6 w7 = F7 := ⟨_, rfl⟩
  rw [hF7] at HN4 HS7 HF7
  have hw4 : w.heap.size ≤ w4.heap.size := K4.out.size
  have HW4 : Hid (w.heap.size ≤ w4.heap.size ∧ w4.heap.size < w7.heap.size) := ⟨hw4, t2⟩
  clear S7 k7 b7 HQ hF7 hn4 HBx HB1 HV HBy HL HB HS4 HF4 HS6 HB6 HB5 HP1 r0 r1 r2 hlt4 hw4 K14 K16 K45 K6 K13
  go_wp2_with fail
  obtain ⟨w8, hw8⟩ : ∃ w8, w7.setCell ⟨w4.heap.size, 0, none⟩ (.int .u8 ((c + 1) % 256)) = w8 := ⟨_, rfl⟩
  have KC8 : Chg (fun k => k = w4.heap.size) w7 w8 := by
    rw [← hw8]
    exact (Chg.refl _ w7).setCell _ _ (.inl rfl)
  have HS8 : Hid (St 64 36 F7 p [(id, rowL c)] 1 w8) := HS7.out.chg KC8 (fun b hb e => HN4.out (by subst e; exact hb))
  have HK8 : Hid (Chg no w w8) := K7.out.trans KC8 (fun b hb => .inr (by have := HW4.out.1; omega))
  simp only [hw8]
  have hone : hasL [(id, rowL c)] id = true ∧ getL [(id, rowL c)] id = (id, rowL c) := one_has id (rowL c)
  have HG := get_own HS8.out id
  rw [hone.1, hone.2] at HG
  simp only [rowL_len] at HG
  have HG2 : Hid (∀ W, St 64 36 F7 p [(id, rowL c)] 1 W → Calls Try.prog 17 #[pt p, .int .i64 id] W fun e w' => ∃ a c', e = .returned (.tuple #[.slice a 37 c', .bool true]) ∧ w'.ownsRow W.heap.size 5 1 (.slice a 37 c') 37 ((rowL c).map (Value.int .u8)) ∧ Chg no W w') := by
    intro W h
    have := get_own h id
    rw [hone.1, hone.2] at this
    simp only [rowL_len] at this
    exact this
  clear hw8 KC8 HS7 HN4 t0 t1 t2 K7 HW4 hone
  refine HG.mono ?_
  rintro e w9 ⟨a9, c9, rfl, o9, k9⟩
  obtain ⟨g9, rfl⟩ : ∃ g9, a9 = some ⟨g9, 0, none⟩ := by
    rcases o9.2 with ⟨_, h0⟩ | ⟨g, cap, cur, hh, _⟩
    · omega
    · cases hh
      exact ⟨g, rfl⟩
  have HO9 : Hid (w9.ownsRow w8.heap.size 5 1 (.slice (some ⟨g9, 0, none⟩) 37 c9) 37 ((rowL c).map (Value.int .u8))) := o9
  have HK9 : Hid (Chg no w8 w9) := k9
  clear HG o9 k9
  go_wp2_with fail
  refine (HRow w9).mono ?_
  rintro e w10 ⟨rfl, b10, k10⟩
  have HBy10 := bytes_row (Lies.of_owns (J := fun _ => True) HO9.out (fun _ _ => trivial)) (rowL_bytes hc) k10 c hc b10
  rw [decide_eq_true rfl] at HBy10
  have HK10 : Hid (Chg no w9 w10) := k10
  clear b10 k10
  go_wp2_with fail
  refine HBy10.mono ?_
  rintro e w10' ⟨rfl, rfl⟩
  have o10 := HK10.out.owns HO9.out (fun _ _ h => h)
  have t0 : w10'.cell? ⟨g9, 0, none⟩ = some (.int .u8 c) := by
    rw [o10.cellAt 0 (by omega)]
    simp [rowL]
  have t1 := o10.frozenAt 0
  have t2 := (o10.lt g9 rfl).2
  have HG9 : Hid (w8.heap.size ≤ g9 ∧ g9 < w9.heap.size) := HO9.out.lt g9 rfl
  clear HBy10 o10 HO9
  go_wp2_with fail
  obtain ⟨w11, hw11⟩ : ∃ w11, w10'.setCell ⟨g9, 0, none⟩ (.int .u8 ((c + 2) % 256)) = w11 := ⟨_, rfl⟩
  have KC11 : Chg (fun k => k = g9) w10' w11 := by
    rw [← hw11]
    exact (Chg.refl _ w10').setCell _ _ (.inl rfl)
  have HS11 : Hid (St 64 36 F7 p [(id, rowL c)] 1 w11) := ((HS8.out.same HK9.out).same HK10.out).chg KC11 (fun b hb e => by have := HS8.out.lt b hb; have := HG9.out.1; omega)
  have HK11 : Hid (Chg no w w11) := ((HK8.out.then HK9.out).then HK10.out).trans KC11 (fun b hb => .inr (by have := HK8.out.size; have := HG9.out.1; omega))
  simp only [hw11]
  clear hw11 KC11 HS8 HK8 HK9 HK10 HG9 t0 t1 t2
  refine (all_own HS11.out).mono ?_
  rintro e w12 ⟨a12, c12, ys, rfl, hys, S12⟩
  obtain ⟨x, rfl, hxid, hxd⟩ : ∃ x, ys = [x] ∧ x.id = id ∧ x.d = rowL c := by
    match ys, hys with
    | [x], hys =>
      simp [abs, BV.bk] at hys
      exact ⟨x, rfl, hys.1, hys.2⟩
    | [], hys => simp [abs] at hys
    | _ :: _ :: _, hys => simp [abs] at hys
  have hrow := S12.row
  simp only [List.length_singleton] at hrow ⊢
  obtain ⟨ox, obx⟩ := S12.dat x (by simp)
  rw [hxd, rowL_len] at ox
  obtain ⟨gx, cx, hxv⟩ : ∃ gx cx, x.v = .slice (some ⟨gx, 0, none⟩) 37 cx := by
    rcases ox.2 with ⟨_, h0⟩ | ⟨g, cap, cur, hh, _⟩
    · omega
    · exact ⟨g, cap, hh⟩
  rw [hxv] at ox
  obtain ⟨y12, rfl, hy1⟩ : ∃ y, a12 = some y ∧ ∀ W, Chg no w12 W → W.cell? ⟨y.block, y.off + 1, none⟩ = some (.slice (some ⟨gx, 0, none⟩) 37 cx) := by
    rcases hrow with ⟨_, h0, _⟩ | ⟨y, cp', e, _, hcell⟩
    · omega
    · cases e
      refine ⟨y, rfl, fun W k => ?_⟩
      have := k.cell (hcell 1 x.v (by simp [fb])) (fun h => h)
      rw [hxv] at this
      have e1 : y.add 1 = ⟨y.block, y.off + 1, none⟩ := by unfold Addr.add; simp
      rw [← e1]
      exact this
  have HY1 : Hid (∀ W, Chg no w12 W → W.cell? ⟨y12.block, y12.off + 1, none⟩ = some (.slice (some ⟨gx, 0, none⟩) 37 cx)) := hy1
  have HOx : Hid (w12.ownsRow (w11.heap.size + 1) 5 1 (.slice (some ⟨gx, 0, none⟩) 37 cx) 37 ((rowL c).map (Value.int .u8))) := ox
  have HK12 : Hid (Chg no w11 w12) := S12.chg
  have z0 := hy1 w12 (Chg.refl no w12)
  clear hrow S12 ox obx hxv hys hxd hxid hy1
  go_upto_region 15 with fail
  go_cut [89] from 77 to 88 (fun b wc => b = .bool false ∧ Chg no w12 wc)
  case first =>
    have HLx : Hid (Lies (fun _ => True) w12 (.slice (some ⟨gx, 0, none⟩) 37 cx) ((rowL c).map (Value.int .u8))) := Lies.of_owns HOx.out (fun _ _ => trivial)
    clear HOx HOK1 K1 K3 HF7 HS11 HK11 HK12 K4 HS34
    have HLd : Hid (Lies (fun _ => True) w12.drew (.slice (some ⟨gx, 0, none⟩) 37 cx) ((rowL c).map (Value.int .u8))) := HLx.out.chg ((Chg.refl no w12).drew) (fun _ _ h => h)
    have HC29 : Hid (Calls Try.prog 29 #[.int .u8 c] w12.drew fun e w' => e = .returned (.slice (some ⟨w12.heap.size, 0, none⟩) 37 37) ∧ w'.cell? ⟨y12.block, y12.off + 1, none⟩ = some (.slice (some ⟨gx, 0, none⟩) 37 cx) ∧ Calls Try.prog 15 #[.slice (some ⟨gx, 0, none⟩) 37 cx, .slice (some ⟨w12.heap.size, 0, none⟩) 37 37] w' fun e2 w2 => e2 = .returned (.bool true) ∧ w2 = w' ∧ Chg no w12 w') := by
      refine (HRow w12.drew).mono ?_
      rintro e w13 ⟨rfl, b13, k13⟩
      have K13 : Chg no w12 w13 := ((Chg.refl no w12).drew).then k13
      refine ⟨rfl, HY1.out w13 K13, ?_⟩
      have HBB := bytes_row HLd.out (rowL_bytes hc) k13 c hc b13
      rw [decide_eq_true rfl] at HBB
      refine HBB.mono ?_
      rintro e w14 ⟨rfl, rfl⟩
      exact ⟨rfl, rfl, K13⟩
    clear HLx HLd HRow HY1
    go_region_held3 (fun w' => w'.cell? ⟨y12.block, y12.off + 1, none⟩ = some (.slice (some ⟨gx, 0, none⟩) 37 cx)) (first | exact z0 | assumption)
      (first
        | (go_at_call 29; refine HC29.out.mono ?_; rintro e w13 ⟨rfl, z13, HBB⟩)
        | (go_at_call 15; refine HBB.mono ?_; rintro e w14 ⟨rfl, rfl, K13⟩))
    all_goals (go_wp2; go_meet; case rel => exact ⟨rfl, K13⟩)
  case rest =>
    obtain ⟨rfl, kc⟩ := hcut
    have z1 := HY1.out wc kc
    have oc := kc.owns HOx.out (fun _ _ h => h)
    have t0 : wc.cell? ⟨gx, 0, none⟩ = some (.int .u8 c) := by
      rw [oc.cellAt 0 (by omega)]
      simp [rowL]
    have t1 := oc.frozenAt 0
    have t2 := (oc.lt gx rfl).2
    have HGx : Hid (w11.heap.size + 1 ≤ gx) := (oc.lt gx rfl).1
    have HKc : Hid (Chg no w11 wc) := HK12.out.then kc
    clear oc kc z0 HOx HY1
    go_wp2_with fail
    obtain ⟨w15, hw15⟩ : ∃ w15, wc.setCell ⟨gx, 0, none⟩ (.int .u8 ((c + 3) % 256)) = w15 := ⟨_, rfl⟩
    have KC15 : Chg (fun k => k = gx) wc w15 := by
      rw [← hw15]
      exact (Chg.refl _ wc).setCell _ _ (.inl rfl)
    have hS15 : St 64 36 F7 p [(id, rowL c)] 1 w15 := (HS11.out.same HKc.out).chg KC15 (fun b hb e => by have := HS11.out.lt b hb; have := HGx.out; omega)
    have HS15 : Hid (St 64 36 F7 p [(id, rowL c)] 1 w15) := hS15
    have HK15 : Hid (Chg no w w15) := (HK11.out.then HKc.out).trans KC15 (fun b hb => .inr (by have := HK11.out.size; have := HGx.out; omega))
    simp only [hw15]
    clear hw15 KC15 HS11 HK11 HKc HGx t0 t1 t2 z1 hS15
    refine (HG2.out w15 HS15.out).mono ?_
    rintro e w16 ⟨a16, c16, rfl, o16, k16⟩
    have HL16 : Hid (Lies (fun _ => True) w16 (.slice a16 37 c16) ((rowL c).map (Value.int .u8))) := Lies.of_owns o16 (fun _ _ => trivial)
    have HK16 : Hid (Chg no w15 w16) := k16
    clear o16 k16 HG2
    go_wp2_with fail
    refine (HF w16).mono ?_
    rintro e w17 ⟨rfl, k17⟩
    have HK17 : Hid (Chg no w16 w17) := k17
    clear k17
    go_wp2_with fail
    refine (HRow w17).mono ?_
    rintro e w18 ⟨rfl, b18, k18⟩
    have HBB := bytes_row (HL16.out.chg HK17.out (fun _ _ h => h)) (rowL_bytes hc) k18 c hc b18
    rw [decide_eq_true rfl] at HBB
    have HK18 : Hid (Chg no w17 w18) := k18
    clear b18 k18 HRow
    go_wp2_with fail
    refine HBB.mono ?_
    rintro e w19 ⟨rfl, rfl⟩
    have HLn := len_any (((HS15.out.same HK16.out).same HK17.out).same HK18.out)
    clear HBB HL16
    go_wp2_with fail
    refine HLn.mono ?_
    rintro e w20 ⟨rfl, rfl⟩
    go_wp2
    go_ret
    exact ⟨rfl, (((HK15.out.then HK16.out).then HK17.out).then HK18.out).below⟩

theorem walk (w : World) (a0 a1 i : Int) (a : Option Addr) (l cp : Nat) (zs : List Int) (w0 : (Lit.int .i64 a0).wf = true) (w1 : (Lit.int .u8 a1).wf = true) (hl : zs.length = l) (hv : Lies (Old w) w (.slice a l cp) (zs.map (Value.int .u8))) (hb : Bytes zs) :
    Calls Try.prog 6 #[.int .i64 a0, .int .u8 a1, bv i a l cp] w fun e w' => e = .returned (.bool true) ∧ Below w.heap.size w w' := by
  by_cases h : a0 < 0 ∨ 64 ≤ a0
  · exact early w a0 a1 i a l cp h
  · exact late w a0 a1 i a l cp zs (by omega) (by omega) (bounds_u8 w1) hl hv hb

theorem own : ownKnob Try.prog.godebug = none := by kernel_rfl
theorem laidOut : laidOutB Try.prog = true := by kernel_rfl

set_option maxRecDepth 100000 in
theorem lifted (os : Os) (started : os.Started) (H : Type) (enc : TypeId × Value → H) :
    ReturnsInHanded {} Try.checked os 6 .any (Rows.stashOwnSpec.pre6 enc Try.prog Try.f6 Rows.stashOwnRow.domain false) (Rows.stashOwnSpec.post enc Try.prog Try.f6 false true false false) := by
  refine returnsInHanded_of_change (C := Try.checked) own started (by kernel_rfl) Try.func6
    (ChangeSpec.witness6 (enc := enc) (C := Try.checked) false ⟨#[], #[.int .i64 0, .int .u8 0, .agg #[.int .i64 0, .slice none 0 0]], []⟩ 8 (by kernel_rfl) (by kernel_rfl) (by kernel_rfl) (by kernel_rfl)) ?_
  intro W base args ds gs before hval0 hW hcnd _
  have hval : ∀ (j : Nat) t v, Try.f6.params[j]? = some t → args[j]? = some v → Value.okWide Try.prog W .any base t v := hval0
  have hW' := hW
  obtain ⟨p, q, hA0, hV, rfl, hfz, hnd⟩ := hW
  have hA : DataW.TrodAll enc Try.prog W 0 (fun _ => true) true Try.f6.params.toList args.toList ds p := hA0
  rw [Try.params6] at hA hval
  obtain ⟨v0, vs0, d0, ds0, p0, q0, hargs, rfl, rfl, h0, r0⟩ := trodAll_cons hA
  obtain ⟨v1, vs1, d1, ds1, p1, q1, rfl, rfl, rfl, h1, r1⟩ := trodAll_cons r0
  obtain ⟨v2, vs2, d2, ds2, p2, q2, rfl, rfl, rfl, h2, r2⟩ := trodAll_cons r1
  obtain ⟨rfl, rfl, rfl⟩ := trodAll_nil r2
  obtain rfl : args = #[v0, v1, v2] := by cases args; simp_all
  obtain ⟨rfl, rfl⟩ := trodVars_none hV
  obtain ⟨a0, rfl, rfl, rfl, w0⟩ := open_int Try.underlying3 (hval 0 3 v0 rfl rfl) h0
  obtain ⟨a1, rfl, rfl, rfl, w1⟩ := open_int Try.underlying5 (hval 1 5 v1 rfl rfl) h1
  have k2 := h2
  have lt2 : ∀ x ∈ p2, x.block < W.heap.size := by obtain ⟨m, hm⟩ := k2; exact DataW.trod_lt m _ _ _ hm
  obtain ⟨i2, b2, l2, c2, zs2, rfl, hl2, hv2, hb2⟩ := open_block (hval 2 36 v2 rfl rfl) h2
  clear hA0 hval0
  refine (walk W a0 a1 i2 b2 l2 c2 zs2 w0 w1 hl2 hv2 hb2).mono fun e W' ⟨he, bel⟩ => ?_
  subst he
  exact ⟨_, rfl, _, _, _, [], _, [], hW', trodAll_mk1 (shut_bool Try.underlying4 _), (trodAll_cons_mk (shut_int Try.underlying3 w0) (trodAll_cons_mk (shut_int Try.underlying5 w1) (trodAll_cons_mk (Below.trod laidOut (by kernel_rfl) (of_decide_eq_true (by kernel_rfl)) k2 bel lt2) trodAll_mk0))), rfl, bel.frame _, fun h => by cases h⟩

theorem over : Rows.stashOwnRow.holds Try.pinned (OpenSpec.ofChange Rows.stashOwnSpec) :=
  OpenClaim.holds_of_wide 6 Try.f6 rfl rfl rfl rfl rfl rfl rfl ⟨rfl, rfl, rfl, rfl, rfl⟩ rfl rfl rfl rfl rfl (by kernel_rfl) Try.func6 (by kernel_rfl)
    (of_decide_eq_true (by kernel_rfl)) (by unfold Func.isWrapper; first | (rw [if_pos (by decide +kernel)]; kernel_rfl) | (rw [if_neg (by decide +kernel)]; exact ⟨rfl, rfl⟩))
    (fun os started H enc _ => lifted os started H enc)

theorem proved : Rows.StashOwnSaid := over
end Go.Proofs.Ytedhlidmmmlemaa.stashOwn
namespace Go.Proofs.Ytedhlidmmmlemaa
theorem stashOwn_holds : Rows.StashOwnSaid := stashOwn.proved
#print axioms stashOwn_holds
end Go.Proofs.Ytedhlidmmmlemaa
