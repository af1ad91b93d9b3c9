/- The contracts of slices.Insert of one block and of slices.Delete of one. -/
import Derived.Test.YtedhlidmmmlemaaIng
namespace Go.Proofs.Ytedhlidmmmlemaa.st
open Go.ChangeShapes Go.WideShapes Go.ChangeAt Go.RowKit Go.Proofs.Ytedhlidmmmlemaa.hp
set_option linter.unusedVariables false
set_option linter.unusedSimpArgs false

theorem insert_any (w : World) (v : Value) (n i : Nat) (XS : List Value) (g0 : Nat) (id : Int) (ab : Option Addr) (l cb : Nat) (ho : w.ownsRow 0 36 2 v n XS) (hi : i ≤ n) (hn : n ≤ 1000) (hX : ∀ u ∈ XS, u.oneCell' = true)
    (hb : w.heap[g0]? = some (.cells #[.int .i64 id, .slice ab l cb] 36 (0, 0))) (hne : v.ownBlock ≠ some g0) :
    Calls Try.prog 34 #[v, .int .i64 i, .slice (some ⟨g0, 0, none⟩) 1 1] w fun e w' => ∃ v', e = .returned v' ∧ w'.ownsRow 0 36 2 v' (n + 1) (insX XS i [.int .i64 id, .slice ab l cb]) ∧ (∀ k, v'.ownBlock = some k → v.ownBlock = some k ∨ w.heap.size ≤ k) ∧ Chg (fun k => v.ownBlock = some k) w w' := by
  by_cases hin : i = n
  · subst hin
    refine (insert_end w v i XS g0 id ab l cb ho hn hb).mono ?_
    rintro e w' ⟨v', rfl, o, g, p⟩
    refine ⟨v', rfl, ?_, p, (Chg.refl _ w).grown g (fun k hk => .inl hk)⟩
    have e : insX XS i [.int .i64 id, .slice ab l cb] = XS ++ [.int .i64 id, .slice ab l cb] := by
      have := ho.1
      unfold insX
      rw [List.take_of_length_le (by omega), List.drop_of_length_le (by omega)]
      simp
    rw [e]
    exact o
  · have ho0 := ho
    rcases ho.2 with ⟨_, h0⟩ | ⟨g, c, _, rfl, _⟩
    · omega
    · obtain ⟨_, _, cur, hg, h1, h2, h3, h4⟩ := owns_open ho0
      subst h4
      by_cases hr : n + 1 ≤ c
      · refine (insert_room w g c n i cur g0 id ab l cb hg h3 h2 (by omega) hr hn hX hb (fun e => hne (by subst e; rfl))).mono ?_
        rintro e w' ⟨rfl, o, k⟩
        exact ⟨_, rfl, o, fun k hk => .inl hk, k.mono (fun x hx => .inl (by subst hx; rfl))⟩
      · refine (insert_grow w g c n i cur g0 id ab l cb hg h3 h2 (by omega) h1 (by omega) hn hX hb).mono ?_
        rintro e w' ⟨G, rfl, o, k⟩
        refine ⟨_, rfl, o, fun k hk => ?_, k.of_no _⟩
        simp [Value.ownBlock] at hk
        omega

theorem step_append_in {P : Program} {ops : Array Oper} {o : Oper} {a : Act} {w : World} {K : Act → World → Prop} {Q : Exit → Act → World → Prop} {E : Prop} (hg : o.guard = none) (s x : Operand) (t : TypeId)
    (ho : o.op = .call { callee := .builtin .append, args := #[s, x], argTypes := #[t, t] })
    (e : TypeId) (i : TypeInfo) (size : Nat) (ht : P.underlying t = some (.slice e)) (hi : P.info? e = some i) (hsize : i.size = size)
    (g n cap : Nat) (xs : List Value) (hs : a.eval s = .slice (some ⟨g, 0, none⟩) n cap) (hown : w.ownsRow 0 e size (.slice (some ⟨g, 0, none⟩) n cap) n xs)
    (ad : Addr) (m c : Nat) (news : List Value) (hx : a.eval x = .slice (some ad) m c) (hl : news.length = m * size) (hnews : ∀ j u, news[j]? = some u → w.cell? (ad.add j) = some u) (h1 : ∀ u ∈ news, u.oneCell' = true)
    (N : Nat) (hN : n + m = N) (hroom : N ≤ cap)
    (h : ∀ w', Hid (w'.ownsRow 0 e size (.slice (some ⟨g, 0, none⟩) N cap) N (xs ++ news)) → Hid (Chg (fun k => k = g) w w') → K (a.put o.dst (.slice (some ⟨g, 0, none⟩) N cap)) w') :
    if Region.wanted o (yielded ops a.tmps) = true then Oper.wp P o a w K Q else E := by
  have hw : Region.wanted o (yielded ops a.tmps) = true := by simp [Region.wanted, hg]
  rw [if_pos hw]
  subst hN
  obtain ⟨w', hrun, r1, r2⟩ := run_append_fits (P := P) w 0 t o.type e i size ht hi hsize g n cap xs hown ad m c news hl hnews h1 hroom
  unfold Oper.wp
  simp [execOp, ho, resolve, invoke, builtin, hs, hx, hrun, Result.andThen]
  exact h w' r1 ((Chg.refl _ w).grown r2 (fun k hk => .inl (by simp at hk; exact hk.symm)))

/-- What the row holds behind it. -/
def delX (XS : List Value) (i : Nat) : List Value := XS.take (i * 2) ++ XS.drop (i * 2 + 2)

theorem zero36 (w : World) : (zeroValue 36).run Try.prog w = .ok bz w := by
  obtain ⟨i0, hi, hz0, hz1, hz2⟩ := info_parts' info36
  simp [zeroValue, typeInfo, hi, hz0]

set_option maxRecDepth 100000 in
set_option maxHeartbeats 4000000 in
theorem delete_any (w : World) (g c N i : Nat) (XS : List Value) (ho : w.ownsRow 0 36 2 (.slice (some ⟨g, 0, none⟩) (N + 1) c) (N + 1) XS) (hi : i ≤ N) (hn : N ≤ 1000) (hX : ∀ u ∈ XS, u.oneCell' = true) :
    Calls Try.prog 35 #[.slice (some ⟨g, 0, none⟩) (N + 1) c, .int .i64 i, .int .i64 ((i : Int) + 1)] w fun e w' => e = .returned (.slice (some ⟨g, 0, none⟩) N c) ∧ w'.ownsRow 0 36 2 (.slice (some ⟨g, 0, none⟩) N c) N (delX XS i) ∧ Chg (fun k => k = g) w w' := by
  obtain ⟨i0, hi0, hz0, hz1, hz2⟩ := info_parts' info36
  obtain ⟨_, _, cur, hg, h1, h2, h3, h4⟩ := owns_open ho
  have hXl := ho.1
  have HO : Hid (w.ownsRow 0 36 2 (.slice (some ⟨g, 0, none⟩) i c) i (XS.take (i * 2))) := owns_shut hg (by omega) h2 h3 (by rw [← h4, List.take_take, Nat.min_eq_left (by omega)])
  obtain ⟨CB, hCB⟩ : ∃ CB, XS.drop (i * 2 + 2) = CB := ⟨_, rfl⟩
  have hl1 : CB.length = (N - i) * 2 := by rw [← hCB, List.length_drop]; omega
  have hCB1 : ∀ u ∈ CB, u.oneCell' = true := fun u hu => hX u (by rw [← hCB] at hu; exact List.mem_of_mem_drop hu)
  have HCg : Hid (∀ j u, CB[j]? = some u → w.cell? ((⟨g, i * 2 + 2, none⟩ : Addr).add j) = some u) := by
    intro j u hu
    rw [Addr.add_lit]
    have hj := (List.getElem?_eq_some_iff.1 hu).1
    refine (row_cell hg _ _ ?_).1
    rw [← hCB, ← h4, List.getElem?_drop, List.getElem?_take_of_lt (by omega)] at hu
    exact hu
  have hF : delX XS i = XS.take (i * 2) ++ CB := by rw [← hCB]; rfl
  obtain ⟨DX, hDX⟩ : ∃ DX, XS.take (i * 2) ++ CB = DX := ⟨_, rfl⟩
  rw [hF, hDX]
  unfold maxLen at h2
  have hci : (c : Int) ≤ 9223372036854775807 := by omega
  have e1 : ¬ ((i : Int) = (i : Int) + 1) := by omega
  have e2 : ((i : Int) == (i : Int) + 1) = false := by rw [beq_eq_false_iff_ne]; omega
  have e3 : (0 : Int) ≤ (i : Int) + 1 := by omega
  have e4 : ((i : Int) + 1).toNat = i + 1 := by omega
  have e5 : (i : Int) + 1 ≤ (N : Int) + 1 := by omega
  have e6 : (i : Int) ≤ (i : Int) + 1 := by omega
  have e7 : ((N : Int) + 1) ≤ c := by omega
  have e8 : (i : Int) ≤ c := by omega
  have e9 : ((N : Int) + 1).toNat = N + 1 := by omega
  have e10 : (i : Int) ≤ (N : Int) + 1 := by omega
  have e11 : ((N + 1 : Nat) : Int) = (N : Int) + 1 := by omega
  have hb1 : ¬ (c = i) := by omega
  have hb2 : ¬ (c = N) := by omega
  have hnn : N ≤ N + 1 := by omega
  clear hCB h4 hXl ho hX
  have hi2 : (i + 1) * 2 = i * 2 + 2 := by omega
  have HFin : Hid (∀ w2 : World, w2.ownsRow 0 36 2 (.slice (some ⟨g, 0, none⟩) N c) N (XS.take (i * 2) ++ CB) → ∃ cur2 : List Value, w2.heap[g]? = some (.cells cur2.toArray 36 (0, 0)) ∧ N * 2 + bz.cells.size ≤ cur2.length ∧ ∀ w3 : World, w3.heap[g]? = some (.cells (splice cur2 (N * 2) bz.cells.toList).toArray 36 (0, 0)) → w3.ownsRow 0 36 2 (.slice (some ⟨g, 0, none⟩) N c) N DX) := by
    intro w2 o2
    obtain ⟨_, _, cur2, hg2, k1, k2, k3, k4⟩ := owns_open o2
    have hz : bz.cells.size = 2 := rfl
    have hz' : bz.cells.toList.length = 2 := rfl
    refine ⟨cur2, hg2, by omega, fun w3 hg3 => owns_shut hg3 k1 k2 ?_ ?_⟩
    · rw [length_splice _ _ _ (by omega), k3]
    · have l1 : (cur2.take (N * 2)).length = N * 2 := by rw [List.length_take]; omega
      unfold splice
      rw [List.take_append_of_le_length (by omega), List.take_of_length_le (by omega), k4, hDX]
  have hbz1 : ∀ u ∈ bz.cells, u.oneCell' = true := by
    intro u hu
    simp [Value.cells] at hu
    rcases hu with rfl | rfl <;> rfl
  clear hF hDX hg h3
  by_cases hcc : c = i + 1
  · obtain rfl : i = N := by omega
    subst hcc
    obtain rfl : CB = [] := List.eq_nil_of_length_eq_zero (by omega)
    go_enter Try.func35, Try.ntmps35
    go_wp2_with fail
    go_region_law (refine step_append_in rfl (.tmp 22) (.tmp 25) 22 rfl 36 i0 2 Try.underlying22 hi0 hz1 g i (i + 1) (XS.take (i * 2)) (by simp [Act.eval, Act.put]) HO.out ⟨g, 0, none⟩ 0 0 [] (by simp [Act.eval, Act.put]) rfl (fun j u hu => by simp at hu) (fun u hu => by simp at hu) i (by omega) (by omega) ?_; intro w2 O2 K2)
    obtain ⟨cur2, hg2, hf2, hend⟩ := HFin.out w2 O2.out
    have HE : Hid _ := hend
    clear hend
    go_wp2_with (refine wpList_clear_wide rfl (.tmp 31) 22 rfl 36 bz Try.underlying22 zero36 hbz1 g (i * 2) 1 rfl cur2 36 hg2 hf2 ?_; intro w3 G3 K3)
    go_ret
    exact ⟨rfl, HE.out _ G3.out, ((Chg.refl _ w).drew.then K2.out).then K3.out⟩
  · have hm : i + (N + 1 - (i + 1)) = N := by omega
    have hl2 : CB.length = (N + 1 - (i + 1)) * 2 := by omega
    go_enter Try.func35, Try.ntmps35
    go_wp2_with fail
    go_region_law (refine step_append_in rfl (.tmp 22) (.tmp 25) 22 rfl 36 i0 2 Try.underlying22 hi0 hz1 g i c (XS.take (i * 2)) (by simp [Act.eval, Act.put]) HO.out ⟨g, i * 2 + 2, none⟩ (N + 1 - (i + 1)) (c - (i + 1)) CB (by simp [Act.eval, Act.put, hi2]) hl2 HCg.out hCB1 N hm (by omega) ?_; intro w2 O2 K2)
    obtain ⟨cur2, hg2, hf2, hend⟩ := HFin.out w2 O2.out
    have HE : Hid _ := hend
    clear hend
    go_wp2_with (refine wpList_clear_wide rfl (.tmp 31) 22 rfl 36 bz Try.underlying22 zero36 hbz1 g (N * 2) (c - N) rfl cur2 36 hg2 hf2 ?_; intro w3 G3 K3)
    go_ret
    exact ⟨rfl, HE.out _ G3.out, ((Chg.refl _ w).drew.then K2.out).then K3.out⟩

end Go.Proofs.Ytedhlidmmmlemaa.st
