/- The contract of the document's Take. -/
import Derived.Test.YtedhlidmmmlemaaRfi
import Derived.Test.YtedhlidmmmlemaaFre
namespace Go.Proofs.Ytedhlidmmmlemaa.st
open Go.ChangeShapes Go.WideShapes Go.ChangeAt Go.RowKit Go.Proofs.Ytedhlidmmmlemaa.hp
set_option linter.unusedVariables false
set_option linter.unusedSimpArgs false

/-- A new row, its data partly new (in blocks of N), the box told of it. -/
theorem Stw.anew {T e : TypeId} {F D N : Nat → Prop} {p : Nat} {v v' : Value} {xs xs' : List BV} {m m' : Nat} {W w1 w2 : World} (h : Stw T e F D p v xs m W) (hN : ∀ k, N k → ¬ F k ∧ k < W.heap.size) (f : Fresh e 2 W w1 v' xs'.length (xs'.flatMap fb))
    (hx : ∀ x ∈ xs', x ∈ xs ∨ (Lies N W x.v (x.d.map (Value.int .u8)) ∧ Bytes x.d)) (b2 : w2.heap[p]? = some (.cells #[v', .int .i64 (m' : Int)] T (0, 0))) (k2 : Chg (fun k => k = p) w1 w2) :
    Stw T e (fun k => F k ∨ N k ∨ v'.ownBlock = some k) (fun k => D k ∨ N k) p v' xs' m' w2 := by
  have s1 := f.2.size
  have s2 := k2.size
  have hv : ∀ k, v'.ownBlock = some k → W.heap.size ≤ k ∧ k < w1.heap.size := fun k hk => f.1.lt k hk
  have hp := h.lt p h.fp
  have hD : ∀ k, D k ∨ N k → k < W.heap.size := by
    rintro k (hk | hk)
    · exact h.lt k (h.fd k hk)
    · exact (hN k hk).2
  have np : ∀ k, D k ∨ N k → k ≠ p := by
    rintro k (hk | hk) rfl
    · exact h.sp hk
    · exact (hN k hk).1 h.fp
  refine ⟨b2, k2.owns (owns_base f.1 (Nat.zero_le _)) (fun k hk e => by have := hv k hk; omega), fun x hxx => ?_, .inl h.fp, fun k hk => .inr (.inr hk), fun k hk => ?_, fun k hk => ?_, fun e => np p e rfl, fun k hk => ⟨fun e => ?_, fun e => ?_⟩⟩
  · have : Lies (fun k => D k ∨ N k) W x.v (x.d.map (Value.int .u8)) ∧ Bytes x.d := by
      rcases hx x hxx with hh | hh
      · exact ⟨(h.dat x hh).1.mono (fun k hk => .inl hk), (h.dat x hh).2⟩
      · exact ⟨hh.1.mono (fun k hk => .inr hk), hh.2⟩
    exact ⟨(this.1.chg f.2 (fun _ _ h => h)).chg k2 (fun k hk e => np k hk e), this.2⟩
  · rcases hk with hk | hk
    · exact .inl (h.fd k hk)
    · exact .inr (.inl hk)
  · rcases hk with hk | hk | hk
    · have := h.lt k hk
      omega
    · have := (hN k hk).2
      omega
    · have := hv k hk
      omega
  · have := hv k hk
    have := hD k e
    omega
  · have := hv k hk
    omega

/-- Pieces of a row. -/
theorem Stw.front {T e : TypeId} {F D : Nat → Prop} {p : Nat} {a : Option Addr} {n c : Nat} {xs : List BV} {m : Nat} {w W : World} (h : Stw T e F D p (.slice a n c) xs m w) (k : Chg no w W) (i : Nat) (hi : i ≤ xs.length) : Lie (Old W) W (.slice a i c) i ((xs.take i).flatMap fb) := by
  have hb := (h.same k).bks.row
  refine Lie.old (J := fun _ => True) ?_
  rcases hb with ⟨e1, e2, e3⟩ | ⟨y, cp, e1, hJ, hc⟩
  · cases e1
    obtain rfl : i = 0 := by omega
    exact .inl ⟨rfl, rfl, by simp⟩
  · cases e1
    refine .inr ⟨y, c, rfl, fun _ => trivial, fun j u hu => hc j u ?_⟩
    rw [← takeB] at hu
    have := (List.getElem?_eq_some_iff.1 hu).1
    rw [List.length_take] at this
    rwa [List.getElem?_take_of_lt (by omega)] at hu

theorem Stw.rest {T e : TypeId} {F D : Nat → Prop} {p : Nat} {g n c : Nat} {xs : List BV} {m : Nat} {w W : World} (h : Stw T e F D p (.slice (some ⟨g, 0, none⟩) n c) xs m w) (k : Chg no w W) (i M C : Nat) (hM : xs.length - i = M) : Lie (Old W) W (.slice (some ⟨g, i * 2, none⟩) M C) M ((xs.drop i).flatMap fb) := by
  have hb := (h.same k).bks.row
  refine Lie.old (J := fun _ => True) ?_
  rcases hb with ⟨e1, e2, e3⟩ | ⟨y, cp, e1, hJ, hc⟩
  · cases e1
  · cases e1
    refine .inr ⟨_, C, rfl, fun _ => trivial, fun j u hu => ?_⟩
    rw [← dropB, List.getElem?_drop] at hu
    have := hc _ u hu
    rw [Addr.add_lit] at this ⊢
    simpa using this

theorem Stw.one {T e : TypeId} {F D : Nat → Prop} {p : Nat} {v : Value} {xs : List BV} {m : Nat} {w : World} (h : Stw T e F D p v xs m w) (ys : List BV) (hy : ∀ y ∈ ys, y ∈ xs) : ∀ u ∈ ys.flatMap fb, u.oneCell' = true :=
  oneB ys (fun x hx => by
    obtain ⟨a', c', hxv, _⟩ := (h.dat x (hy x hx)).1.slice
    exact ⟨_, _, _, hxv⟩)

theorem lie_none (J : Nat → Prop) (w : World) (a : Option Addr) (c : Nat) (h : a = none → c = 0) : Lie J w (.slice a 0 c) 0 [] := by
  cases a with
  | none => exact .inl ⟨by rw [h rfl], rfl, rfl⟩
  | some y => exact .inr ⟨y, c, rfl, fun h => (h rfl).elim, fun i u hu => by simp at hu⟩

set_option maxRecDepth 100000 in
set_option maxHeartbeats 8000000 in
theorem rtake_any {F : Nat → Prop} {p : Nat} {L : List Bk} {m : Nat} {w : World} (h : St 32 37 F p L m w) (id : Int) :
    Calls Try.prog 14 #[pt p, .int .i64 id] w fun e w' => ∃ a c, e = .returned (.tuple #[bv (getL L id).1 a (getL L id).2.length c, .bool (hasL L id)]) ∧ Lies F w' (.slice a (getL L id).2.length c) ((getL L id).2.map (Value.int .u8)) ∧ St 32 37 (Wid F w w') p (delL L id) m w' ∧ Chg F w w' := by
  obtain ⟨i0, hi0, hz0, hz1, hz2⟩ := info_parts' info37
  have HS : Hid (St 32 37 F p L m w) := h
  have HF : Hid (∀ W, Chg no w W → Calls Try.prog 16 #[pt p, .int .i64 id] W fun e w' => e = .returned (.int .i64 (findL L id)) ∧ w' = W) := fun W k => rfind_any (h.same k) id
  obtain ⟨v, xs, D, h1, rfl, h3, h4, h5⟩ := h
  have hx : xs.length ≤ 64 := by rw [abs_len] at h4; omega
  have H1 : Hid (Stw 32 37 F D p v xs m w) := h1
  obtain ⟨P, hP⟩ : ∃ P, posL (abs xs) id = P := ⟨_, rfl⟩
  have HOK : Hid (okL (abs xs) ∧ (abs xs).length ≤ m ∧ m ≤ 64) := ⟨h3, h4, h5⟩
  have hres : Try.f14.results = #[.cell 4 37, .tmp 5] := by kernel_rfl
  cases hh : hasL (abs xs) id
  · have e : getL (abs xs) id = dBk := by unfold getL; rw [hh]; rfl
    have e2 : delL (abs xs) id = abs xs := by unfold delL; rw [hh]; rfl
    have e3 : findL (abs xs) id = -1 := by unfold findL; rw [hh]; rfl
    rw [e, e2]
    rw [e3] at HF
    have hA4 : (w.alloc (.cells #[.int .i64 0, .slice none 0 0] 37)).heap[w.heap.size]? = some (.cells #[.int .i64 0, .slice none 0 0] 37 (0, 0)) := heap_alloc_new _ _
    obtain ⟨q0, q1⟩ := row_cell (xs := [_, _]) hA4 0 _ rfl
    obtain ⟨q2, q3⟩ := row_cell (xs := [_, _]) hA4 1 _ rfl
    have q4 := lt_of_block hA4
    have K : Hid (St 32 37 (Wid F w (w.alloc (.cells #[.int .i64 0, .slice none 0 0] 37))) p (abs xs) m (w.alloc (.cells #[.int .i64 0, .slice none 0 0] 37)) ∧ Chg F w (w.alloc (.cells #[.int .i64 0, .slice none 0 0] 37))) := by
      have k : Chg no w (w.alloc (.cells #[.int .i64 0, .slice none 0 0] 37)) := (Chg.refl no w).alloc _
      exact ⟨HS.out.grown k, k.of_no F⟩
    clear h1 h3 h4 h5 hx e e2 e3 hP hh hA4
    go_enter Try.func14, Try.ntmps14
    go_wp2_with fail
    refine (HF.out _ ((Chg.refl no w).alloc _)).mono ?_
    rintro e w1 ⟨rfl, rfl⟩
    clear HF
    go_wp2
    refine bodyPost_ret (v := .tuple #[.agg #[.int .i64 0, .slice none 0 0], .bool false]) ?_ rfl ⟨none, 0, rfl, .inl ⟨rfl, rfl⟩, K.out.1, K.out.2⟩
    simp only [results, hres]
    go_simp
  · have e : getL (abs xs) id = (abs xs).getD (posL (abs xs) id) dBk := by unfold getL; rw [hh]; rfl
    have e2 : delL (abs xs) id = (abs xs).take (posL (abs xs) id) ++ (abs xs).drop (posL (abs xs) id + 1) := by unfold delL; rw [hh]; rfl
    have e3 : findL (abs xs) id = (posL (abs xs) id : Nat) := by unfold findL; rw [hh]; rfl
    have hlt := (has_at hh).1
    rw [abs_len] at hlt
    rw [e, abs_getD]
    rw [hP] at hlt e2 e3 ⊢
    rw [e3] at HF
    have hok : ((xs.getD P dBV).bk).2.length = 37 := by
      rw [← abs_getD]
      exact (h3.2 _ (getD_mem (by rw [abs_len]; exact hlt))).2.2
    have HE2 : Hid (delL (abs xs) id = abs (xs.take P ++ xs.drop (P + 1))) := by
      rw [abs_del]
      exact e2
    obtain ⟨g, c0, ab, cb, hv, e4, e5, hxv, hD, hB, hgl⟩ := h1.at P hlt
    obtain ⟨⟨i1, v1, zs⟩, hx1⟩ : ∃ X, xs.getD P dBV = X := ⟨_, rfl⟩
    rw [hx1] at hok e4 e5 hxv hD hB ⊢
    simp only [BV.bk] at hok e4 e5 hxv hD hB ⊢
    rw [hok] at e5 hxv hD ⊢
    obtain ⟨N, hn⟩ : ∃ N, xs.length = N + 1 := ⟨xs.length - 1, by omega⟩
    have HL : Hid (xs.length = N + 1) := hn
    rw [hn] at hv hlt hx
    subst hv
    have HDL : Hid (okL (delL (abs xs) id) ∧ (delL (abs xs) id).length ≤ m) := ⟨h3.del id, by rw [del_len]; split <;> omega⟩
    have HDt : Hid (Lies D w (.slice ab 37 cb) (zs.map (Value.int .u8))) := hD
    have hrow := h1.row
    rw [hn] at hrow
    have hcc : N + 1 ≤ c0 ∧ c0 ≤ 9223372036854775807 := by
      obtain ⟨_, _, cur, _, q1, q2, _⟩ := owns_open hrow
      unfold maxLen at q2
      exact ⟨q1, by omega⟩
    obtain ⟨hcc1, hcc2⟩ := hcc
    have hplt : p < w.heap.size := h1.lt p h1.fp
    obtain ⟨d0, _, _, _, _⟩ := h1.cells
    have hA4 : (w.alloc (.cells #[.int .i64 0, .slice none 0 0] 37)).heap[w.heap.size]? = some (.cells #[.int .i64 0, .slice none 0 0] 37 (0, 0)) := heap_alloc_new _ _
    have HA4 : Hid _ := hA4
    have hPi : (P : Int) < (N : Int) + 1 := by omega
    have hPN : (P : Int) < ((N + 1 : Nat) : Int) := by omega
    have hP0 : (0 : Int) ≤ (P : Int) + 1 := by omega
    have hPt : ((P : Int) + 1).toNat = P + 1 := by omega
    have hPl : (P : Int) + 1 ≤ (N : Int) + 1 := by omega
    have hPl2 : (P : Int) + 1 ≤ ((N + 1 : Nat) : Int) := by omega
    have hPc : (P : Int) ≤ (c0 : Int) := by omega
    have hPw : IntKind.i64.wrap ((P : Int) + 1) = (P : Int) + 1 := by rw [IntKind.wrap_i64]; omega
    have hc0i : (c0 : Int) ≤ 9223372036854775807 := by omega
    have hP2 : (P + 1) * 2 = P * 2 + 2 := by omega
    clear h1 h3 h4 h5 e e2 e3 hP hh hn hA4 hx1 hrow hD hB hxv
    go_enter Try.func14, Try.ntmps14
    go_wp2_with fail
    refine (HF.out _ ((Chg.refl no w).alloc _)).mono ?_
    rintro e w1 ⟨rfl, rfl⟩
    clear HF
    have hg1 : g ≠ w.heap.size := by omega
    have hp1 : p ≠ w.heap.size := by omega
    go_wp2_with fail
    obtain ⟨WB, hWB⟩ : ∃ WB, (w.alloc (.cells #[.int .i64 0, .slice none 0 0] 37)).alloc (.cells #[.int .i64 i1, .slice ab 37 cb] 37) = WB := ⟨_, rfl⟩
    have KB : Chg no w WB := by rw [← hWB]; exact ((Chg.refl no w).alloc _).alloc _
    obtain ⟨bA, bB⟩ := heap_two w (.cells #[.int .i64 0, .slice none 0 0] 37) (.cells #[.int .i64 i1, .slice ab 37 cb] 37)
    rw [hWB] at bA bB
    have hsz : w.heap.size + 1 < WB.heap.size := lt_of_block bB
    simp only [hWB]
    have HKB : Hid (Chg no w WB) := KB
    have HbA : Hid _ := bA
    have HbB : Hid _ := bB
    have SB := H1.out.same KB
    have HSB : Hid (Stw 32 37 F D p (.slice (some ⟨g, 0, none⟩) (N + 1) c0) xs m WB) := SB
    have HPC : Hid (∀ W, Chg no WB W → W.cell? ⟨p, 0, none⟩ = some (.slice (some ⟨g, 0, none⟩) (N + 1) c0) ∧ W.frozen? ⟨p, 0, none⟩ = false ∧ p < W.heap.size ∧ W.heap[p]? = some (.cells #[.slice (some ⟨g, 0, none⟩) (N + 1) c0, .int .i64 (m : Int)] 32 (0, 0))) := by
      intro W k
      have S := HSB.out.same k
      exact ⟨S.cells.1, S.cells.2.2.1, S.cells.2.2.2.2, S.box⟩
    obtain ⟨z0, z1, z2, z3⟩ := HPC.out WB (Chg.refl no WB)
    have HFr : Hid (∀ W, Chg no WB W → Lie (Old W) W (.slice (some ⟨g, 0, none⟩) P c0) P ((xs.take P).flatMap fb)) := fun W k => HSB.out.front k P (by rw [HL.out]; omega)
    have HLa : Hid (((xs.take P).flatMap fb).length = P * 2 ∧ ∀ u ∈ (xs.take P).flatMap fb, u.oneCell' = true) := ⟨by rw [flat_length lenb, List.length_take, HL.out, Nat.min_eq_left (by omega)], SB.one _ (fun y hy => List.mem_of_mem_take hy)⟩
    have HLb : Hid (((xs.drop (P + 1)).flatMap fb).length = (N - P) * 2 ∧ ∀ u ∈ (xs.drop (P + 1)).flatMap fb, u.oneCell' = true) := ⟨by rw [flat_length lenb, List.length_drop, HL.out]; congr 1; omega, SB.one _ (fun y hy => List.mem_of_mem_drop hy)⟩
    have hPm : P ≤ maxLen := by unfold maxLen; omega
    have hNm : N ≤ maxLen := by unfold maxLen; omega
    have hPb : P * 32 ≤ 140737488355328 := by omega
    have hNb : N * 32 ≤ 140737488355328 := by omega
    have hPN1 : P + (N - P) = N := by omega
    have HEnd : Hid (∀ b6 c6 w6, Fresh 37 2 WB w6 (.slice b6 N c6) N ([] ++ (xs.take P).flatMap fb ++ (xs.drop (P + 1)).flatMap fb) →
        ((w6.setCell ⟨p, 0, none⟩ (.slice b6 N c6)).cell? ⟨w.heap.size + 1, 0, none⟩ = some (.int .i64 i1) ∧ (w6.setCell ⟨p, 0, none⟩ (.slice b6 N c6)).cell? ⟨w.heap.size + 1, 1, none⟩ = some (.slice ab 37 cb) ∧
        (w6.setCell ⟨p, 0, none⟩ (.slice b6 N c6)).cell? ⟨w.heap.size, 0, none⟩ = some (.int .i64 0) ∧ (w6.setCell ⟨p, 0, none⟩ (.slice b6 N c6)).cell? ⟨w.heap.size, 1, none⟩ = some (.slice none 0 0) ∧
        (w6.setCell ⟨p, 0, none⟩ (.slice b6 N c6)).frozen? ⟨w.heap.size, 0, none⟩ = false ∧ (w6.setCell ⟨p, 0, none⟩ (.slice b6 N c6)).frozen? ⟨w.heap.size, 1, none⟩ = false ∧ w.heap.size < (w6.setCell ⟨p, 0, none⟩ (.slice b6 N c6)).heap.size) ∧
        ∀ w8, Chg (fun k => k = w.heap.size) (w6.setCell ⟨p, 0, none⟩ (.slice b6 N c6)) w8 → Lies F w8 (.slice ab 37 cb) (zs.map (Value.int .u8)) ∧ St 32 37 (Wid F w w8) p (delL (abs xs) id) m w8 ∧ Chg F w w8) := by
      intro b6 c6 w6 f6
      have k7 : Chg (fun k => k = p) w6 (w6.setCell ⟨p, 0, none⟩ (.slice b6 N c6)) := (Chg.refl _ w6).setCell _ _ (.inl rfl)
      have g4 := k7.heap (f6.2.heap HbA.out (fun h => h)) (by omega)
      have g5 := k7.heap (f6.2.heap HbB.out (fun h => h)) (by omega)
      have s0 := HKB.out.size
      have s6 := f6.2.size
      have s7 := k7.size
      refine ⟨⟨(row_cell (xs := [_, _]) g5 0 _ rfl).1, (row_cell (xs := [_, _]) g5 1 _ rfl).1, (row_cell (xs := [_, _]) g4 0 _ rfl).1, (row_cell (xs := [_, _]) g4 1 _ rfl).1, (row_cell (xs := [_, _]) g4 0 _ rfl).2, (row_cell (xs := [_, _]) g4 1 _ rfl).2, lt_of_block g4⟩, ?_⟩
      intro w8 k8
      have s8 := k8.size
      have hlen : (xs.take P ++ xs.drop (P + 1)).length = N := by
        rw [List.length_append, List.length_take, List.length_drop, HL.out]
        omega
      have f7 : Fresh 37 2 WB w6 (.slice b6 N c6) (xs.take P ++ xs.drop (P + 1)).length ((xs.take P ++ xs.drop (P + 1)).flatMap fb) := by
        rw [hlen]
        simpa using f6
      have hb7 := row_set (xs := [_, _]) (HPC.out w6 f6.2).2.2.2 0 (.slice b6 N c6)
      have S7 := HSB.out.anew (N := no) (fun k hk => hk.elim) f7 (fun x hx => by
        rcases List.mem_append.1 hx with hx | hx
        · exact .inl (List.mem_of_mem_take hx)
        · exact .inl (List.mem_of_mem_drop hx)) hb7 k7
      have hown : ∀ k, (Value.slice b6 N c6).ownBlock = some k → WB.heap.size ≤ k ∧ k < w6.heap.size := fun k hk => f6.1.lt k hk
      have S8 := S7.chg k8 (fun b hb e => by
        rcases hb with hb | hb | hb
        · have := H1.out.lt b hb
          omega
        · exact hb
        · have := hown b hb
          omega)
      have S9 := S8.wide (G := Wid F w w8) (fun k hk => by
        rcases hk with hk | hk | hk
        · exact .inl hk
        · exact hk.elim
        · have := hown k hk
          exact .inr ⟨by omega, by omega⟩) (fun k hk => by
        rcases hk with hk | hk
        · have := H1.out.lt k hk
          omega
        · exact hk.2)
      have D6 := ((HDt.out.chg (HKB.out.then f6.2) (fun _ _ h => h)).chg k7 (fun b hb e => H1.out.sp (by subst e; exact hb))).chg k8 (fun b hb e => by have := H1.out.lt b (H1.out.fd b hb); omega)
      refine ⟨D6.mono H1.out.fd, ⟨_, _, _, S9, HE2.out.symm, HDL.out.1, HDL.out.2, HOK.out.2.2⟩, ?_⟩
      exact (((HKB.out.then f6.2).of_no F).trans k7 (fun b hb => .inl (by subst hb; exact H1.out.fp))).trans k8 (fun b hb => .inr (by omega))
    obtain ⟨U, hU⟩ : ∃ U, (xs.drop (P + 1)).flatMap fb = U := ⟨_, rfl⟩
    have HRe : Hid (∀ W, Chg no WB W → (c0 = P + 1 → Lie (Old W) W (.slice (some ⟨g, 0, none⟩) 0 0) (N - P) U) ∧ (c0 ≠ P + 1 → Lie (Old W) W (.slice (some ⟨g, P * 2 + 2, none⟩) (N - P) (c0 - (P + 1))) (N - P) U)) := by
      intro W k
      refine ⟨fun hc => ?_, fun hc => ?_⟩
      · have hNP : N = P := by omega
        have hU0 : U = [] := by
          rw [← hU, List.drop_of_length_le (by rw [HL.out]; omega)]
          rfl
        rw [hU0, hNP, Nat.sub_self]
        exact lie_none _ _ _ _ (fun h => by cases h)
      · have := HSB.out.rest k (P + 1) (N - P) (c0 - (P + 1)) (by rw [HL.out]; omega)
        rw [hU, show (P + 1) * 2 = P * 2 + 2 by omega] at this
        exact this
    rw [hU] at HEnd HLb
    clear KB bA bB hWB SB HKB HbA HbB HSB hU HDL HE2 HDt HOK H1 HS HL HA4
    by_cases hcap : c0 = P + 1
    · obtain rfl : N = P := by omega
      subst hcap
      have hz : N - N = 0 := Nat.sub_self N
      have hq : (N : Int) ≤ (N : Int) + 1 := by omega
      have HRe2 : Hid (∀ W, Chg no WB W → Lie (Old W) W (.slice (some ⟨g, 0, none⟩) 0 0) (N - N) U) := fun W k => (HRe.out W k).1 rfl
      clear HRe
      go_region_law (first
        | (refine step_fresh rfl (.tmp 22) (.tmp 28) 30 rfl 37 i0 bz 2 32 Try.underlying30 hi0 hz0 hz1 hz2 rfl (by decide) (.slice (some ⟨WB.heap.size, 0, none⟩) 0 0) 0 [] (by simp [Act.eval, Act.put]) (Fresh.made 37 2 (Chg.refl no WB) (by first | exact Chg.refl no _ | exact (Chg.refl no _).drew)) _ (.slice (some ⟨g, 0, none⟩) N (N + 1)) N ((xs.take N).flatMap fb) (by simp [Act.eval, Act.put]) (HFr.out _ (by first | exact (Chg.refl no WB).alloc _ | exact ((Chg.refl no WB).alloc _).drew)) HLa.out.1 HLa.out.2 N (Nat.zero_add N) hPm hPb ?_
           intro b5 c5 w5 F5 _
           obtain ⟨y0, y1, y2, y3⟩ := HPC.out w5 F5.out.2)
        | (refine step_fresh rfl (.tmp 29) (.tmp 36) 30 rfl 37 i0 bz 2 32 Try.underlying30 hi0 hz0 hz1 hz2 rfl (by decide) (.slice b5 N c5) N _ (by simp [Act.eval, Act.put]) F5.out _ (.slice (some ⟨g, 0, none⟩) 0 0) (N - N) U (by simp [Act.eval, Act.put, hP2, hz]) (HRe2.out _ F5.out.2) HLb.out.1 HLb.out.2 N hPN1 hNm hNb ?_
           intro b6 c6 w6 F6 _
           obtain ⟨x0, x1, x2, x3⟩ := HPC.out w6 F6.out.2))
      all_goals
        obtain ⟨⟨t0, t1, t2, t3, t4, t5, t6⟩, hE⟩ := HEnd.out _ _ _ F6.out
        have HE8 : Hid _ := hE _ (chg_two _ w.heap.size 0 1 (.int .i64 i1) (.slice ab 37 cb))
        clear hE F5 F6 HEnd HRe2 HFr HLa HLb HPC
        go_wp2
        refine bodyPost_ret (v := .tuple #[.agg #[.int .i64 i1, .slice ab 37 cb], .bool true]) ?_ rfl ⟨ab, cb, rfl, HE8.out.1, HE8.out.2.1, HE8.out.2.2⟩
        simp only [results, hres]
        go_simp
    · have HRe2 : Hid (∀ W, Chg no WB W → Lie (Old W) W (.slice (some ⟨g, P * 2 + 2, none⟩) (N - P) (c0 - (P + 1))) (N - P) U) := fun W k => (HRe.out W k).2 hcap
      have hz : N + 1 - (P + 1) = N - P := by omega
      clear HRe
      go_region_law (first
        | (refine step_fresh rfl (.tmp 22) (.tmp 28) 30 rfl 37 i0 bz 2 32 Try.underlying30 hi0 hz0 hz1 hz2 rfl (by decide) (.slice (some ⟨WB.heap.size, 0, none⟩) 0 0) 0 [] (by simp [Act.eval, Act.put]) (Fresh.made 37 2 (Chg.refl no WB) (by first | exact Chg.refl no _ | exact (Chg.refl no _).drew)) _ (.slice (some ⟨g, 0, none⟩) P c0) P ((xs.take P).flatMap fb) (by simp [Act.eval, Act.put]) (HFr.out _ (by first | exact (Chg.refl no WB).alloc _ | exact ((Chg.refl no WB).alloc _).drew)) HLa.out.1 HLa.out.2 P (Nat.zero_add P) hPm hPb ?_
           intro b5 c5 w5 F5 _
           obtain ⟨y0, y1, y2, y3⟩ := HPC.out w5 F5.out.2)
        | (refine step_fresh rfl (.tmp 29) (.tmp 36) 30 rfl 37 i0 bz 2 32 Try.underlying30 hi0 hz0 hz1 hz2 rfl (by decide) (.slice b5 P c5) P _ (by simp [Act.eval, Act.put]) F5.out _ (.slice (some ⟨g, P * 2 + 2, none⟩) (N - P) (c0 - (P + 1))) (N - P) U (by simp [Act.eval, Act.put, hP2, hz]) (HRe2.out _ F5.out.2) HLb.out.1 HLb.out.2 N hPN1 hNm hNb ?_
           intro b6 c6 w6 F6 _
           obtain ⟨x0, x1, x2, x3⟩ := HPC.out w6 F6.out.2))
      all_goals
        obtain ⟨⟨t0, t1, t2, t3, t4, t5, t6⟩, hE⟩ := HEnd.out _ _ _ F6.out
        have HE8 : Hid _ := hE _ (chg_two _ w.heap.size 0 1 (.int .i64 i1) (.slice ab 37 cb))
        clear hE F5 F6 HEnd HRe2 HFr HLa HLb HPC
        go_wp2
        refine bodyPost_ret (v := .tuple #[.agg #[.int .i64 i1, .slice ab 37 cb], .bool true]) ?_ rfl ⟨ab, cb, rfl, HE8.out.1, HE8.out.2.1, HE8.out.2.2⟩
        simp only [results, hres]
        go_simp

end Go.Proofs.Ytedhlidmmmlemaa.st
