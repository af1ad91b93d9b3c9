/- The contract of first: what the chapter's examples fix. -/
import Derived.Test.YtmchjnmmeankgaaAlg
namespace Go.Proofs.Ytmchjnmmeankgaa.st
open Go.ChangeShapes Go.WideShapes Go.ChangeAt Go.RowKit Go.Proofs.Ytmchjnmmeankgaa.hp Go.Proofs.Ytmchjnmmeankgaa.dg
set_option linter.unusedVariables false

theorem fresh_ok (zs : List Int) (L : Nat) (h1 : 1 ≤ L) (h2 : L ≤ 4000) : (OS.fresh zs L).Ok := ⟨h1, h2, by simp [OS.fresh], by simp [OS.fresh]⟩

theorem fst_why : (OS.fresh [] 2).why 1 0 2 = 0 := by decide
theorem fst_cell : ((OS.fresh [] 2).cellOf (1, 0) [3, 4]).length = 14 ∧ ((OS.fresh [] 2).cellOf (1, 0) [3, 4]).drop 12 = [3, 4] := by decide +kernel
theorem fst_xor : xor2 [1, 2] [3] = [2, 2] := by decide +kernel

/-- An oracle of a new tape. -/
theorem Orc.tape {w : World} {p q : Nat} {F : Nat → Prop} {S : OS} (h : Orc p q S w F) : w.cell? ⟨p, 0, none⟩ = some (.pointer (some ⟨q, 0, none⟩)) ∧ q < w.heap.size ∧ ∃ tv, Tpe w q tv (S.ks.length * S.L) S.zs := by
  obtain ⟨b, tv, pv, kv, I, h⟩ := h
  exact ⟨h.cells.1, h.lt q h.fq, tv, h.tpe⟩

theorem two_lies (w : World) (x y : Int) : Lies (fun k => k = w.heap.size) (w.alloc (.cells #[.int .u8 x, .int .u8 y] 5)) (.slice (some ⟨w.heap.size, 0, none⟩) 2 2) (([x, y] : List Int).map (Value.int .u8)) := lies_new [.int .u8 x, .int .u8 y] 5

set_option maxRecDepth 100000 in
set_option maxHeartbeats 4000000 in
theorem first_any (w : World) : Calls Try.prog 8 #[] w fun e w' => e = .returned (.bool true) ∧ Chg no w w' := by
  have HP := newPads_any (.slice none 0 0) [] no w (.inl ⟨rfl, rfl⟩) (by simp)
  go_enter Try.func8, Try.ntmps8
  go_wp2_with fail
  refine HP.mono ?_
  rintro e w1 ⟨q, tv, rfl, T1, hq, htv, k1, hql⟩
  have HN := new_ok T1 2 (by omega) (by omega)
  clear HP
  go_wp2_with fail
  refine HN.mono ?_
  rintro e w2 ⟨p, rfl, O2, k2⟩
  obtain ⟨F, hF⟩ : ∃ F : Nat → Prop, F = fun k => k = q ∨ tv.ownBlock = some k ∨ (w1.heap.size ≤ k ∧ k < w2.heap.size) := ⟨_, rfl⟩
  have K2 : Chg no w w2 := k1.then k2
  have hFw : ∀ k, F k → w.heap.size ≤ k := by
    intro k hk
    rw [hF] at hk
    have := k1.size
    rcases hk with e | e | e
    · omega
    · exact (htv k e).1
    · omega
  rw [← hF] at O2
  have hOk := fresh_ok [] 2 (by omega) (by omega)
  have O3 := O2.chg ((Chg.refl no w2).alloc (.cells #[.int .u8 3, .int .u8 4] 5)) (fun _ _ h => h)
  have hOl := O2.lt
  have HS := seal_ok O3 hOk (by simp [OS.fresh]) 1 0 (fits_may (by decide)) _ [3, 4] (two_lies w2 3 4) (fun k hk => ⟨fun e => by have := hOl k e; omega, by simp; omega⟩) fst_why
  have hpl2 := O2.plt
  clear HN T1 hF htv k2 O2
  go_wp2_with fail
  refine HS.mono ?_
  rintro e w3 ⟨v, rfl, ⟨F3, O4, hF3, hL3, c3⟩, xa, xl, xc, rfl, hc1, hc2⟩
  obtain ⟨CZ, hCZ⟩ : ∃ CZ, (OS.fresh [] 2).cellOf (1, 0) [3, 4] = CZ := ⟨_, rfl⟩
  obtain ⟨S2, hS2⟩ : ∃ S2, (OS.fresh [] 2).put (1, 0) [3, 4] = S2 := ⟨_, rfl⟩
  have hcb := cell_back (S := OS.fresh [] 2) (g := 1) (c := 0) (zs := [3, 4]) (by intro x hx; simp [OS.fresh] at hx) (by intro x hx; simp at hx; omega) fst_why
  have hcl := fst_cell
  have hcby := cell_bytes (S := OS.fresh [] 2) (by intro x hx; simp [OS.fresh] at hx) 1 0 (zs := [3, 4]) (by intro x hx; simp at hx; omega)
  have hks : S2.ks.length = 1 := by rw [← hS2]; decide
  have hSL : S2.L = 2 := by rw [← hS2]; rfl
  have hS2ok : S2.Ok := ⟨by omega, by omega, by omega, by rw [← hS2]; decide⟩
  rw [hCZ] at hL3 hcb hcl hcby
  rw [hS2] at O4 hcb
  obtain ⟨xa', xc', hv', _⟩ := hL3.slice
  rw [List.length_map, hcl.1] at hv'
  cases hv'
  have HO := open_any O4 hS2ok xa xc CZ (by omega) (by rw [hcl.1]; exact hL3) hcby (by omega) hc2
  rw [hcl.1] at HO
  unfold Opened at HO
  rw [hcb.1, hcb.2] at HO
  have K3 : Chg no w w3 := (K2.alloc _).trans c3 (fun k hk => .inr (hFw k hk))
  have hdr := lies_back hL3 (n := 12) (by simp; omega)
  rw [← List.map_drop, hcl.2] at hdr
  have ha : (fun y : Addr => y.add 12) = fun y => ⟨y.block, y.off + 12, none⟩ := by
    funext y
    simp [Addr.add]
  rw [ha] at hdr
  have HDR : Hid (Lies (fun _ => True) w3 (.slice (xa.map fun y => ⟨y.block, y.off + 12, none⟩) 2 (xc - 12)) (([3, 4] : List Int).map (Value.int .u8))) := hdr.mono (fun _ _ => trivial)
  have HO4 : Hid (Orc p q S2 w3 F3) := O4
  have hci : (14 : Int) ≤ xc := by omega
  have hci2 : (xc : Int) ≤ 9223372036854775807 := by unfold maxLen at hc2; omega
  have HQ : Hid (S2.ks.length * S2.L = 2) := by show S2.ks.length * S2.L = 2; rw [hks, hSL]
  clear HS O3 hL3 c3 hcb hcl hcby hdr ha hOl hF3 O4 hS2 hCZ hks hSL hS2ok hOk
  go_wp2_with fail
  refine HO.mono ?_
  rintro e w4 ⟨v4, rfl, N4⟩
  obtain ⟨x4, c4, rfl⟩ := N4.shape
  have O5 := HO4.out.chg N4.2 (fun _ _ h => h)
  have K4 := K3.then N4.2
  simp only [List.length_cons, List.length_nil, Nat.zero_add, Nat.reduceAdd] at N4 ⊢
  have HB1 := bytes_same (Lies.chg HDR.out (N4.2.alloc (.cells #[.int .u8 3, .int .u8 4] 5)) (fun _ _ h => h)) (two_lies w4 3 4)
  clear HO HO4 HDR
  go_wp2_with fail
  refine HB1.mono ?_
  rintro e w5 ⟨rfl, rfl⟩
  have k5 : Chg no w4 (w4.alloc (.cells #[.int .u8 3, .int .u8 4] 5)) := (Chg.refl no w4).alloc _
  obtain ⟨w5, hw5⟩ : ∃ w5, w4.alloc (.cells #[.int .u8 3, .int .u8 4] 5) = w5 := ⟨_, rfl⟩
  rw [hw5] at k5 ⊢
  have HB2 := bytes_same ((N4.lies.chg k5 (fun _ _ h => h)).chg ((Chg.refl no w5).alloc (.cells #[.int .u8 3, .int .u8 4] 5)) (fun _ _ h => h)) (two_lies w5 3 4)
  have O6 := O5.chg k5 (fun _ _ h => h)
  have K5 := K4.then k5
  clear HB1 hw5 k5 O5 K4 N4
  go_wp2_with fail
  refine HB2.mono ?_
  rintro e w6 ⟨rfl, rfl⟩
  have k6 : Chg no w5 (w5.alloc (.cells #[.int .u8 3, .int .u8 4] 5)) := (Chg.refl no w5).alloc _
  have hpl5 := O6.plt
  obtain ⟨w6, hw6⟩ : ∃ w6, w5.alloc (.cells #[.int .u8 3, .int .u8 4] 5) = w6 := ⟨_, rfl⟩
  rw [hw6] at k6 ⊢
  have O7 := O6.chg k6 (fun _ _ h => h)
  have K6 := K5.then k6
  obtain ⟨t0, t1, tv', T⟩ := O7.tape
  rw [HQ.out] at T
  have HD := drawn_any T
  have hpl6 := O7.plt
  clear HB2 hw6 k6 O6 K5 T hpl5
  go_wp2_with fail
  refine HD.mono ?_
  rintro e w7 ⟨rfl, rfl⟩
  clear HD t0 t1
  have kA : Chg no w7 (w7.alloc (.cells #[.int .u8 1, .int .u8 2] 5)) := (Chg.refl no w7).alloc _
  obtain ⟨wA, hwA⟩ : ∃ wA, w7.alloc (.cells #[.int .u8 1, .int .u8 2] 5) = wA := ⟨_, rfl⟩
  have lA := two_lies w7 1 2
  have szA : wA.heap.size = w7.heap.size + 1 := by rw [← hwA]; simp
  rw [hwA] at kA lA
  have kB : Chg no wA (wA.alloc (.cells #[.int .u8 3] 5)) := (Chg.refl no wA).alloc _
  obtain ⟨wB, hwB⟩ : ∃ wB, wA.alloc (.cells #[.int .u8 3] 5) = wB := ⟨_, rfl⟩
  have lB : Lies (fun k => k = wA.heap.size) (wA.alloc (.cells #[.int .u8 3] 5)) (.slice (some ⟨wA.heap.size, 0, none⟩) 1 1) (([3] : List Int).map (Value.int .u8)) := lies_new [.int .u8 3] 5
  have szB : wB.heap.size = wA.heap.size + 1 := by rw [← hwB]; simp
  rw [hwB] at kB lB
  have HX := xor_one wB (.slice (some ⟨w7.heap.size, 0, none⟩) 2 2) (.slice (some ⟨wA.heap.size, 0, none⟩) 1 1) [1, 2] [3] ((lA.chg kB (fun _ _ h => h)).mono (fun _ _ => trivial)) (lB.mono (fun _ _ => trivial)) (by simp) (by simp)
  rw [fst_xor] at HX
  simp only [szB, szA] at HX
  clear lA lB O7
  go_wp2_with fail
  refine HX.mono ?_
  rintro e w8 ⟨v8, rfl, N8⟩
  obtain ⟨x8, c8, rfl⟩ := N8.shape
  simp only [List.length_cons, List.length_nil, Nat.zero_add, Nat.reduceAdd] at N8 ⊢
  have HB3 := bytes_same (N8.lies.chg ((Chg.refl no w8).alloc (.cells #[.int .u8 2, .int .u8 2] 5)) (fun _ _ h => h)) (two_lies w8 2 2)
  have K8 : Chg no w w8 := ((K6.then kA).then kB).then N8.2
  clear HX N8 hwA hwB szA szB kA kB K6
  go_wp2_with fail
  refine HB3.mono ?_
  rintro e w9 ⟨rfl, rfl⟩
  go_wp2
  go_ret
  exact ⟨rfl, K8.alloc _⟩

end Go.Proofs.Ytmchjnmmeankgaa.st
