/- The program's Of. -/
import Derived.Test.YtfhpdcimdeilpaaLf
import Derived.Test.YtfhpdcimdeilpaaDk
import Derived.Deep.OwnRows
namespace Go.Proofs.Ytfhpdcimdeilpaa.st
open Go.ChangeShapes Go.WideShapes Go.ChangeAt Go.RowKit Go.Proofs.Ytfhpdcimdeilpaa.hp Go.Proofs.Ytfhpdcimdeilpaa.tells
set_option linter.unusedVariables false
set_option linter.unusedSimpArgs false

theorem info3 : (Try.prog.info? 3).map (fun i => (i.zero, i.size, i.bytes)) = some (some (.int .i64 0), 1, 8) := by kernel_rfl
theorem info50 : (Try.prog.info? 50).map (fun i => (i.zero, i.size, i.bytes)) = some (some (.slice none 0 0), 1, 24) := by kernel_rfl

theorem clone_any {J : Nat → Prop} (w : World) (a : Option Addr) (m c : Nat) (zs : List Int) (hm : zs.length = m) (h : Lies J w (.slice a m c) (zs.map (Value.int .i64))) (h1 : 1 ≤ m) (hl : m ≤ 100000) :
    Calls Try.prog 50 #[.slice a m c] w fun e w' => (∃ a' n' c', e = .returned (.slice a' n' c')) ∧ Chg no w w' := by
  subst hm
  obtain ⟨i0, hi, hz0, hz1, hz2⟩ := info_parts info3
  have hmade := World.ownsRow_made (base := w.heap.size) (e := 3) (size := 1) w #[] 0 (Nat.le_refl _) (by unfold maxLen; omega) rfl
  obtain ⟨x, h1', hc⟩ : ∃ x, a = some x ∧ ∀ i u, (zs.map (Value.int .i64))[i]? = some u → w.cell? (x.add i) = some u := by
    rcases h with ⟨hh, h0⟩ | ⟨x, cap, h1', _, h3⟩
    · have : zs = [] := List.map_eq_nil_iff.1 h0
      rw [this] at h1
      simp at h1
    · simp only [Value.slice.injEq] at h1'
      exact ⟨x, h1'.1, h3⟩
  subst h1'
  have qT : ∀ (w : World) (a : Option Addr) (n c n' c' : Nat), (binOp .eql 50 (.slice a n c) (.slice none n' c')).run Try.prog w = .ok (.bool a.isNone) w := fun w a n c n' c' => Lib.run_eql_slice_nil w _ _ a n c n' c' Try.underlying50
  go_enter Try.func50, Try.ntmps50
  go_wp2_with (at_builtin; refine wpList_append_own _ rfl _ _ 50 rfl w.heap.size 3 i0 (.int .i64 0) 1 8 Try.underlying50 hi hz0 hz1 hz2 rfl (by decide) _ 0 [] rfl hmade x _ c (zs.map (Value.int .i64)) rfl ?c1 ?c2 ?c3 ?c4 ?c5 ?c6 ?_)
  case c1 => simp
  case c2 => exact fun j u hu => ((Chg.refl no w).alloc _).cell (hc j u hu) id
  case c3 =>
    intro u hu
    obtain ⟨z, _, rfl⟩ := List.mem_map.1 hu
    rfl
  case c4 => unfold maxLen; omega
  case c5 => omega
  case c6 => simp
  intro v' w1 hown hg _
  have hk : Chg no w w1 := by
    refine ((Chg.refl no w).alloc _).grown hg ?_
    intro k hk
    simp [Value.ownBlock] at hk
    omega
  obtain ⟨a', c', rfl⟩ := owns_shape hown
  go_wp2
  go_ret
  exact ⟨⟨_, _, _, rfl⟩, hk⟩

/-- The configuration's box, the answer's, the row of tables. -/
structure Ofs (w : World) (g g1 gt len : Nat) (h z b r rd wt s p q t : Int) (tv : Value) (W : World) : Prop where
  box : W.heap[g]? = some (cfgOI h z b r rd wt s p q t tv)
  res : W.heap[g1]? = some (layO 0 0 0 0 0 0 0 0 0 0 (.slice none 0 0))
  row : ∃ xs : List Value, xs.length = len ∧ W.heap[gt]? = some (.cells xs.toArray 50 (0, 0))
  chg : Chg no w W
  ne : g ≠ gt ∧ g1 ≠ gt ∧ w.heap.size ≤ gt ∧ w.heap.size ≤ g ∧ w.heap.size ≤ g1

section
variable {w W W' : World} {g g1 gt len : Nat} {h z b r rd wt s p q t : Int} {tv : Value}
theorem Ofs.later (S : Ofs w g g1 gt len h z b r rd wt s p q t tv W) (k : Chg no W W') : Ofs w g g1 gt len h z b r rd wt s p q t tv W' := by
  obtain ⟨xs, h1, h2⟩ := S.row
  exact ⟨k.heap S.box id, k.heap S.res id, ⟨xs, h1, k.heap h2 id⟩, S.chg.then k, S.ne⟩
theorem Ofs.set (S : Ofs w g g1 gt len h z b r rd wt s p q t tv W) (i : Nat) (u : Value) : Ofs w g g1 gt len h z b r rd wt s p q t tv (W.setCell ⟨gt, i, none⟩ u) := by
  obtain ⟨xs, h1, h2⟩ := S.row
  have k : Chg (fun k => k = gt) W (W.setCell ⟨gt, i, none⟩ u) := (Chg.refl _ W).setCell _ _ (.inl rfl)
  exact ⟨k.heap S.box S.ne.1, k.heap S.res S.ne.2.1, ⟨xs.set i u, by rw [List.length_set, h1], row_set h2 i u⟩, S.chg.setCell _ _ (.inr S.ne.2.2.1), S.ne⟩
theorem Ofs.at (S : Ofs w g g1 gt len h z b r rd wt s p q t tv W) (i : Nat) (hi : i < len) : ∃ u, W.cell? ⟨gt, i, none⟩ = some u ∧ W.frozen? ⟨gt, i, none⟩ = false := by
  obtain ⟨xs, h1, h2⟩ := S.row
  exact ⟨_, row_cell h2 i xs[i] (List.getElem?_eq_getElem (by omega))⟩
end

theorem lay_thaw {h z b r rd wr s p q t : Int} {g : Nat} {tv : Value} {W : World} (hb : W.heap[g]? = some (layO h z b r rd wr s p q t tv)) :
    W.frozen? ⟨g, 0, none⟩ = false ∧ W.frozen? ⟨g, 1, none⟩ = false ∧ W.frozen? ⟨g, 2, none⟩ = false ∧ W.frozen? ⟨g, 3, none⟩ = false ∧ W.frozen? ⟨g, 4, none⟩ = false ∧ W.frozen? ⟨g, 5, none⟩ = false ∧ W.frozen? ⟨g, 6, none⟩ = false ∧ W.frozen? ⟨g, 7, none⟩ = false ∧ W.frozen? ⟨g, 8, none⟩ = false ∧ W.frozen? ⟨g, 9, none⟩ = false ∧ W.frozen? ⟨g, 10, none⟩ = false :=
  ⟨(row_cell hb 0 _ rfl).2, (row_cell hb 1 _ rfl).2, (row_cell hb 2 _ rfl).2, (row_cell hb 3 _ rfl).2, (row_cell hb 4 _ rfl).2, (row_cell hb 5 _ rfl).2, (row_cell hb 6 _ rfl).2, (row_cell hb 7 _ rfl).2, (row_cell hb 8 _ rfl).2, (row_cell hb 9 _ rfl).2, (row_cell hb 10 _ rfl).2⟩

set_option maxRecDepth 100000 in
set_option maxHeartbeats 4000000 in
/-- What may not be has none. -/
theorem of_no (w : World) (I : Ic) (a : Option Addr) (len c : Nat) (A : Nat → Option Addr) (C : Nat → Nat) (Z : Nat → List Int) (R : Rws w a len A C Z) (hlm : len ≤ maxLen) (hM : ¬ mayP I len Z) : Calls Try.prog 9 #[cfgI I (.slice a len c)] w fun e w' => ∃ J a' n' c', e = .returned (.tuple #[cfgI J (.slice a' n' c'), .int .i64 1]) ∧ Chg no w w' := by
  have HP : Hid (∀ W, Chg no w W → Calls Try.prog 10 #[cfgI I (.slice a len c)] W fun e w' => e = .returned (.bool false) ∧ Chg no W w') := fun W k => may_any W I a len c A C Z (Rws.chg R k) hlm false (by simp [hM])
  have hres : Try.f9.results = #[.cell 2 28, .tmp 3] := by kernel_rfl
  obtain ⟨h, z, b, r, rd, wt, s, p, q, t⟩ := I
  clear R hM hlm
  go_enter Try.func9, Try.ntmps9
  go_wp2_with fail
  obtain ⟨w1, hw1⟩ : ∃ w1, (w.alloc (cfgOI h z b r rd wt s p q t (.slice a len c))).alloc (layO 0 0 0 0 0 0 0 0 0 0 (.slice none 0 0)) = w1 := ⟨_, rfl⟩
  have K1 : Chg no w w1 := by rw [← hw1]; exact ((Chg.refl no w).alloc _).alloc _
  have HRs : Hid (w1.heap[w.heap.size + 1]? = some (layO 0 0 0 0 0 0 0 0 0 0 (.slice none 0 0))) := by
    show _ = _
    rw [← hw1]
    have := heap_alloc_new (w.alloc (cfgOI h z b r rd wt s p q t (.slice a len c))) (layO 0 0 0 0 0 0 0 0 0 0 (.slice none 0 0))
    simpa using this
  rw [hw1]
  obtain ⟨g1, hg1⟩ : ∃ g1, w.heap.size + 1 = g1 := ⟨_, rfl⟩
  have hgle : w.heap.size ≤ g1 := by omega
  rw [hg1] at HRs ⊢
  clear hw1 hg1
  refine (HP.out _ K1).mono ?_
  rintro e w2 ⟨rfl, k2⟩
  have hr := k2.heap HRs.out id
  have K2 : Hid (Chg no w w2) := K1.then k2
  have KT : ∀ W', Chg no w2 W' → Chg no w W' := fun W' k => K2.out.then k
  obtain ⟨d0, d1, d2, d3, d4, d5, d6, d7, d8, d9, d10⟩ := lay_cells hr
  obtain ⟨f0, f1, f2, f3, f4, f5, f6, f7, f8, f9, f10⟩ := lay_thaw hr
  clear K1 k2 HRs hr
  go_wp2
  refine bodyPost_ret (v := .tuple #[cfgI ⟨0, 0, 0, 0, 0, 0, 0, 0, 0, 0⟩ (.slice none 0 0), .int .i64 1]) ?_ rfl ⟨⟨0, 0, 0, 0, 0, 0, 0, 0, 0, 0⟩, none, 0, 0, rfl, ?_⟩
  · simp only [results, hres]
    go_simp
  · exact (((((((((((K2.out.setCell _ _ (.inr hgle)).setCell _ _ (.inr hgle)).setCell _ _ (.inr hgle)).setCell _ _ (.inr hgle)).setCell _ _ (.inr hgle)).setCell _ _ (.inr hgle)).setCell _ _ (.inr hgle)).setCell _ _ (.inr hgle)).setCell _ _ (.inr hgle)).setCell _ _ (.inr hgle)).setCell _ _ (.inr hgle))

set_option maxRecDepth 100000 in
set_option maxHeartbeats 8000000 in
/-- What may be has one, with tables of its own. -/
theorem of_yes (w : World) (I : Ic) (a : Option Addr) (len c : Nat) (A : Nat → Option Addr) (C : Nat → Nat) (Z : Nat → List Int) (R : Rws w a len A C Z) (hlm : len ≤ maxLen) (hM : mayP I len Z) : Calls Try.prog 9 #[cfgI I (.slice a len c)] w fun e w' => ∃ a' n' c', e = .returned (.tuple #[cfgI I (.slice a' n' c'), .int .i64 0]) ∧ Chg no w w' := by
  have HP : Hid (∀ W, Chg no w W → Calls Try.prog 10 #[cfgI I (.slice a len c)] W fun e w' => e = .returned (.bool true) ∧ Chg no W w') := fun W k => may_any W I a len c A C Z (Rws.chg R k) hlm true (by simp [hM])
  have HR : Hid (Rws w a len A C Z) := R
  have HT : Hid (okT len Z) := hM.2
  have hl4 := hM.1.len
  have hres : Try.f9.results = #[.cell 2 28, .tmp 3] := by kernel_rfl
  have hmake := fun w => run_make_row' (P := Try.prog) 22 50 (.slice none 0 0) 24 Try.underlying22 info50 rfl .i64 .i64 len (by omega) (by omega) w
  have hli : (len : Int) ≤ 4 := by omega
  obtain ⟨h, z, b, r, rd, wt, s, p, q, t⟩ := I
  clear R hM hlm hl4
  go_enter Try.func9, Try.ntmps9
  go_wp2_with fail
  obtain ⟨w1, hw1⟩ : ∃ w1, (w.alloc (cfgOI h z b r rd wt s p q t (.slice a len c))).alloc (layO 0 0 0 0 0 0 0 0 0 0 (.slice none 0 0)) = w1 := ⟨_, rfl⟩
  have K1 : Chg no w w1 := by rw [← hw1]; exact ((Chg.refl no w).alloc _).alloc _
  have HBx : Hid (w1.heap[w.heap.size]? = some (cfgOI h z b r rd wt s p q t (.slice a len c))) := by
    show _ = _
    rw [← hw1]
    exact ((Chg.refl no _).alloc _).heap (heap_alloc_new w _) id
  have HRs : Hid (w1.heap[w.heap.size + 1]? = some (layO 0 0 0 0 0 0 0 0 0 0 (.slice none 0 0))) := by
    show _ = _
    rw [← hw1]
    have := heap_alloc_new (w.alloc (cfgOI h z b r rd wt s p q t (.slice a len c))) (layO 0 0 0 0 0 0 0 0 0 0 (.slice none 0 0))
    simpa using this
  rw [hw1]
  obtain ⟨g, hg⟩ : ∃ g, w.heap.size = g := ⟨_, rfl⟩
  obtain ⟨g1, hg1⟩ : ∃ g1, g + 1 = g1 := ⟨_, rfl⟩
  have HG : Hid (w.heap.size ≤ g ∧ g < g1) := by show _ ∧ _; omega
  rw [hg] at HBx HRs ⊢
  rw [hg1] at HRs ⊢
  clear hw1 hg1 hg
  refine (HP.out _ K1).mono ?_
  rintro e w2 ⟨rfl, k2⟩
  have HB2 : Hid (w2.heap[g]? = some (cfgOI h z b r rd wt s p q t (.slice a len c))) := k2.heap HBx.out id
  have HR2 : Hid (w2.heap[g1]? = some (layO 0 0 0 0 0 0 0 0 0 0 (.slice none 0 0))) := k2.heap HRs.out id
  have K2 : Hid (Chg no w w2) := K1.then k2
  clear K1 k2 HBx HRs HP
  obtain ⟨c0, c1, c2, c3, c4, c5, c6, c7, c8, c9, c10⟩ := cfgI_cells HB2.out
  clear c0 c1 c2 c3 c4 c5 c6 c7 c8 c9
  have c11 : (w2.alloc (.cells (madeCells #[.slice none 0 0] len) 50)).cell? ⟨g, 10, none⟩ = some (.slice a len c) := ((Chg.refl no w2).alloc _).cell c10 id
  go_wp2_with fail
  clear c11
  obtain ⟨w3, hw3⟩ : ∃ x, w2.alloc (.cells (madeCells #[.slice none 0 0] len) 50) = x := ⟨_, rfl⟩
  have HS0 : Hid (Ofs w g g1 w2.heap.size len h z b r rd wt s p q t (.slice a len c) w3) := by
    have l1 := lt_of_block HB2.out
    have l2 := lt_of_block HR2.out
    have kk : Chg no w2 w3 := by rw [← hw3]; exact (Chg.refl no w2).alloc _
    have hG := HG.out
    refine ⟨kk.heap HB2.out id, kk.heap HR2.out id, ⟨List.replicate len (.slice none 0 0), by simp, ?_⟩, K2.out.then kk, by omega, by omega, K2.out.size, by omega, by omega⟩
    rw [← hw3, show madeCells #[Value.slice none 0 0] len = (List.replicate len (Value.slice none 0 0)).toArray by rw [← toList_madeCells_one]]
    exact heap_alloc_new w2 _
  rw [hw3]
  obtain ⟨gt, hgt⟩ : ∃ x, w2.heap.size = x := ⟨_, rfl⟩
  rw [hgt] at HS0 ⊢
  clear hw3 hgt HB2 HR2 K2 HG hmake c10
  go_loopw [18] (fun iv wq => ∃ i : Nat, i ≤ len ∧ iv = .int .i64 (i : Int) ∧ Ofs w g g1 gt len h z b r rd wt s p q t (.slice a len c) wq) (fun iv _ => len - (intOf iv).toNat)
  case atStart => exact ⟨0, by omega, rfl, HS0.out⟩
  case round =>
    rename World => wl
    clear HS0
    obtain ⟨i, hi, rfl, hS⟩ := hrel
    have HS : Hid (Ofs w g g1 gt len h z b r rd wt s p q t (.slice a len c) wl) := hS
    clear hS
    by_cases hil : i < len
    · have hii : (i : Int) < len := by omega
      obtain ⟨y, rfl, d1, d2, d3, hL⟩ := (Rws.chg HR.out HS.out.chg) i hil
      obtain ⟨o1, o2, o3⟩ := HT.out i hil
      obtain ⟨m, hm⟩ : ∃ m, (Z i).length = m := ⟨_, rfl⟩
      obtain ⟨b1, hb1⟩ : ∃ b, A i = b := ⟨_, rfl⟩
      obtain ⟨e1, he1⟩ : ∃ b, C i = b := ⟨_, rfl⟩
      obtain ⟨zs, hzs⟩ : ∃ zs, Z i = zs := ⟨_, rfl⟩
      rw [hzs] at hm
      rw [hzs, hm] at d1 hL o1 o2
      rw [hb1, he1] at d1 hL
      have HC := clone_any wl b1 m e1 zs hm hL o1 (by omega)
      clear o1 o2 o3 hm hb1 he1 hzs hL d2 d3
      go_wp2_with fail
      refine HC.mono ?_
      rintro e w5 ⟨⟨a', n', c', rfl⟩, k5⟩
      have HS5 : Hid (Ofs w g g1 gt len h z b r rd wt s p q t (.slice (some y) len c) w5) := HS.out.later k5
      obtain ⟨u, q1, q2⟩ := HS5.out.at i hil
      clear HC HS d1 k5
      go_wp2
      go_roundw
      case rel => exact ⟨i + 1, by omega, by go_num, HS5.out.set i _⟩
      case measure => simp [intOf]; omega
    · obtain rfl : i = len := by omega
      have hii : ¬ (i : Int) < i := by omega
      obtain ⟨c0, c1, c2, c3, c4, c5, c6, c7, c8, c9, c10⟩ := cfgI_cells HS.out.box
      obtain ⟨d0, d1, d2, d3, d4, d5, d6, d7, d8, d9, d10⟩ := lay_cells HS.out.res
      obtain ⟨f0, f1, f2, f3, f4, f5, f6, f7, f8, f9, f10⟩ := lay_thaw HS.out.res
      have t10 : wl.frozen? ⟨g, 10, none⟩ = false := (row_cell HS.out.box 10 _ rfl).2
      have hne : g ≠ g1 := by
        intro e
        have hb := HS.out.box
        rw [e, HS.out.res] at hb
        simp at hb
      have hne' : g1 ≠ g := fun e => hne e.symm
      have hgle := HS.out.ne.2.2.2.2
      have hgle0 := HS.out.ne.2.2.2.1
      have HC := HS.out.chg
      clear HS
      go_wp2
      refine bodyPost_ret (v := .tuple #[cfgI ⟨h, z, b, r, rd, wt, s, p, q, t⟩ (.slice (some ⟨gt, 0, none⟩) i i), .int .i64 0]) ?_ rfl ⟨⟨some ⟨gt, 0, none⟩, i, i, rfl⟩, ?_⟩
      · simp only [results, hres]
        go_simp
      · exact ((((((((((((HC.setCell _ _ (.inr hgle0)).setCell _ _ (.inr hgle)).setCell _ _ (.inr hgle)).setCell _ _ (.inr hgle)).setCell _ _ (.inr hgle)).setCell _ _ (.inr hgle)).setCell _ _ (.inr hgle)).setCell _ _ (.inr hgle)).setCell _ _ (.inr hgle)).setCell _ _ (.inr hgle)).setCell _ _ (.inr hgle)).setCell _ _ (.inr hgle))

end Go.Proofs.Ytfhpdcimdeilpaa.st
