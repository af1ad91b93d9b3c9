/- The contract of slices.Insert of one block. -/
import Derived.Test.YtedhlidmmmlemaaCmp
import Derived.Test.YtedhlidmmmlemaaRw2
import Derived.Lib.Overlaps
import Derived.Lib.AppendZerosOnto
import Derived.Laws.Externs
import Derived.Deep.RegionLaw
namespace Go.Proofs.Ytedhlidmmmlemaa.st
open Go.ChangeShapes Go.WideShapes Go.ChangeAt Go.RowKit Go.Proofs.Ytedhlidmmmlemaa.hp
set_option linter.unusedVariables false
set_option linter.unusedSimpArgs false

/-- What the row holds behind it. -/
def insX (XS : List Value) (i : Nat) (new : List Value) : List Value := XS.take (i * 2) ++ (new ++ XS.drop (i * 2))

theorem splice_ins {cur B new : List Value} {a : Nat} (hl : new.length = 2) (hc : a + 2 ≤ cur.length) :
    ∃ R, splice (splice cur (a + 2) B) a new = cur.take a ++ (new ++ (B ++ R)) := by
  refine ⟨cur.drop (a + 2 + B.length), ?_⟩
  unfold splice
  have l1 : (cur.take (a + 2)).length = a + 2 := by rw [List.length_take]; omega
  have e1 : (cur.take (a + 2) ++ (B ++ cur.drop (a + 2 + B.length))).take a = cur.take a := by
    rw [List.take_append_of_le_length (by omega), List.take_take, Nat.min_eq_left (by omega)]
  have e2 : (cur.take (a + 2) ++ (B ++ cur.drop (a + 2 + B.length))).drop (a + new.length) = B ++ cur.drop (a + 2 + B.length) := by
    rw [hl, List.drop_append, l1, Nat.sub_self, List.drop_of_length_le (by omega)]
    simp
  rw [e1, e2]

theorem splice_grow {cur B new : List Value} {a : Nat} (hl : new.length = 2) (hc : a ≤ cur.length) :
    ∃ R, splice (splice cur a new) (a + 2) B = cur.take a ++ (new ++ (B ++ R)) := by
  refine ⟨(splice cur a new).drop (a + 2 + B.length), ?_⟩
  have e : (splice cur a new).take (a + 2) = cur.take a ++ new := by
    unfold splice
    have l1 : (cur.take a).length = a := by rw [List.length_take]; omega
    rw [← List.append_assoc, List.take_append_of_le_length (by simp [l1, hl])]
    exact List.take_of_length_le (by simp [l1, hl])
  obtain ⟨Y, hY⟩ : ∃ Y, splice cur a new = Y := ⟨_, rfl⟩
  rw [hY] at e ⊢
  unfold splice
  rw [e, List.append_assoc]

/-- The front of such a row. -/
theorem ins_front {XS new A B R : List Value} {n i : Nat} (hA : A = XS.take (i * 2)) (hB : B = XS.drop (i * 2)) (hl : new.length = 2) (hX : XS.length = n * 2) (hi : i ≤ n) : (A ++ (new ++ (B ++ R))).take ((n + 1) * 2) = insX XS i new := by
  subst hA hB
  unfold insX
  rw [← List.append_assoc, ← List.append_assoc, ← List.append_assoc]
  rw [List.take_append_of_le_length (by simp only [List.length_append, List.length_take, List.length_drop]; omega), List.take_of_length_le (by simp only [List.length_append, List.length_take, List.length_drop]; omega)]

theorem info36' : (Try.prog.info? 36).map (·.size) = some 2 := by kernel_rfl
theorem size36 (w : World) : (Go.sizeOf 36).run Try.prog w = .ok 2 w := by
  obtain ⟨i0, hi, hz0, hz1, hz2⟩ := info_parts' info36
  simp [Go.sizeOf, typeInfo, hi, hz1]

theorem overlaps_not (w : World) (g g0 off lb cb m vc : Nat) (cur : Array Value) (id : Int) (v : Value) (hne : g0 ≠ g) (hg : w.heap[g]? = some (.cells cur 36 (0, 0))) (hcur : cur.size ≠ 0) (hb : w.heap[g0]? = some (.cells #[.int .i64 id, v] 36 (0, 0))) :
    (callFunc 42 #[.slice (some ⟨g0, 0, none⟩) m vc, .slice (some ⟨g, off, none⟩) lb cb]).run Try.prog w = .ok (.value (.bool false)) w := by
  rw [run_callFunc_extern Try.func42 (by kernel_rfl) (by kernel_rfl) (by kernel_rfl) (e := Extern.SlicesOverlaps.overlaps #[22, 22] #[4]) (by kernel_rfl),
    Lib.run_overlaps_apart w 22 4 36 Try.underlying22 2 size36 ⟨g0, 0, none⟩ ⟨g, off, none⟩ m vc lb cb hne 36 36 2 cur.size (by simp [World.shape?, hb]) (by simp [World.shape?, hg]) hcur (by simp [World.frozen?, hb]) (by simp [World.frozen?, hb])]
  rfl

set_option maxRecDepth 100000 in
set_option maxHeartbeats 4000000 in
/-- There is room: in place. -/
theorem insert_room (w : World) (g c n i : Nat) (cur : List Value) (g0 : Nat) (id : Int) (ab : Option Addr) (l cb : Nat) (hg : w.heap[g]? = some (.cells cur.toArray 36 (0, 0))) (hc : cur.length = c * 2) (hcm : c ≤ maxLen) (hi : i < n) (hr : n + 1 ≤ c) (hn : n ≤ 1000) (hX : ∀ u ∈ cur.take (n * 2), u.oneCell' = true)
    (hb : w.heap[g0]? = some (.cells #[.int .i64 id, .slice ab l cb] 36 (0, 0))) (hne : g0 ≠ g) :
    Calls Try.prog 34 #[.slice (some ⟨g, 0, none⟩) n c, .int .i64 i, .slice (some ⟨g0, 0, none⟩) 1 1] w fun e w' => e = .returned (.slice (some ⟨g, 0, none⟩) (n + 1) c) ∧ w'.ownsRow 0 36 2 (.slice (some ⟨g, 0, none⟩) (n + 1) c) (n + 1) (insX (cur.take (n * 2)) i [.int .i64 id, .slice ab l cb]) ∧ Chg (fun k => k = g) w w' := by
  have hsz : (Try.prog.info? 36).map (·.size) = some 2 := info36'
  have hov : ∀ (off m cb' : Nat), (callFunc 42 #[.slice (some ⟨g0, 0, none⟩) 1 1, .slice (some ⟨g, off, none⟩) m cb']).run Try.prog w = .ok (.value (.bool false)) w := fun off m cb' => overlaps_not w g g0 off m cb' 1 1 cur.toArray id (Value.slice ab l cb) hne hg (by simp only [List.size_toArray]; omega) hb
  unfold maxLen at hcm
  have hci : (c : Int) ≤ 9223372036854775807 := by omega
  have h1 : ¬ ((i : Int) = (n : Int)) := by omega
  have h1b : ((i : Int) == (n : Int)) = false := by simp; omega
  have h2 : ¬ ((c : Int) < (n : Int) + 1) := by omega
  have h3 : (0 : Int) ≤ (n : Int) + 1 := by omega
  have h4 : ((n : Int) + 1).toNat = n + 1 := by omega
  have h5 : ((i : Int) + 1).toNat = i + 1 := by omega
  have h6 : (0 : Int) ≤ (i : Int) + 1 := by omega
  have h7 : ((i : Int) + 1) ≤ (n : Int) + 1 := by omega
  have h8 : (i : Int) ≤ (n : Int) + 1 := by omega
  have h9 : (i : Int) ≤ (n : Int) := by omega
  have h10 : ((n : Int) + 1) ≤ (c : Int) := by omega
  have hb1 : ¬ (c = i) := by omega
  have hb2 : ¬ (c = i + 1) := by omega
  have hw1 : IntKind.i64.wrap ((n : Int) + 1) = (n : Int) + 1 := by rw [IntKind.wrap_i64]; omega
  have hw2 : IntKind.i64.wrap ((i : Int) + 1) = (i : Int) + 1 := by rw [IntKind.wrap_i64]; omega
  obtain ⟨CB, hCB⟩ : ∃ CB, (cur.take (n * 2)).drop (i * 2) = CB := ⟨_, rfl⟩
  have hl1 : CB.length = (n - i) * 2 := by rw [← hCB, List.length_drop, List.length_take]; omega
  have hCBg : ∀ j u, CB[j]? = some u → cur[i * 2 + j]? = some u := by
    intro j u hu
    have hj := (List.getElem?_eq_some_iff.1 hu).1
    rw [hl1] at hj
    rw [← hCB, List.getElem?_drop, List.getElem?_take_of_lt (by omega)] at hu
    exact hu
  have hCB1 : ∀ u ∈ CB, u.oneCell' = true := fun u hu => hX u (by rw [← hCB] at hu; exact List.mem_of_mem_drop hu)
  obtain ⟨NW, hNW⟩ : ∃ NW : List Value, [.int .i64 id, .slice ab l cb] = NW := ⟨_, rfl⟩
  have hNl : NW.length = 2 := by rw [← hNW]; rfl
  have hN1 : ∀ u ∈ NW, u.oneCell' = true := by rw [← hNW]; exact one_b _ _ _ _
  obtain ⟨R, hR⟩ := splice_ins (cur := cur) (B := CB) (new := NW) (a := i * 2) hNl (by omega)
  have HF : Hid (∀ w' : World, w'.heap[g]? = some (.cells (splice (splice cur (i * 2 + 2) CB) (i * 2) NW).toArray 36 (0, 0)) → w'.ownsRow 0 36 2 (.slice (some ⟨g, 0, none⟩) (n + 1) c) (n + 1) (insX (cur.take (n * 2)) i NW)) := by
    intro w' hg'
    refine owns_shut hg' hr (by unfold maxLen; omega) ?_ ?_
    · rw [length_splice _ _ _ (by rw [length_splice _ _ _ (by omega)]; omega), length_splice _ _ _ (by omega), hc]
    · rw [hR]
      exact ins_front (by rw [List.take_take, Nat.min_eq_left (by omega)]) hCB.symm hNl (by rw [List.length_take]; omega) (by omega)
  have HCg : Hid (∀ W : World, W.heap[g]? = some (.cells cur.toArray 36 (0, 0)) → ∀ j u, CB[j]? = some u → W.cell? ((⟨g, i * 2, none⟩ : Addr).add j) = some u) := by
    intro W hW j u hu
    rw [Addr.add_lit]
    exact (row_cell hW _ _ (hCBg j u hu)).1
  have HNc : Hid (∀ W, Chg (fun k => k = g) w W → ∀ j u, NW[j]? = some u → W.cell? ((⟨g0, 0, none⟩ : Addr).add j) = some u) := by
    intro W hW j u hu
    rw [Addr.add_lit, Nat.zero_add]
    have hb' := hW.heap hb hne
    rw [← hNW] at hu
    exact (row_cell (xs := [_, _]) hb' _ _ hu).1
  rw [hNW]
  clear hCB hCBg hR hNW hX hb
  have hi2 : (i + 1) * 2 = i * 2 + 2 := by omega
  have HL : Hid (i * 2 + 2 + CB.length ≤ cur.length ∧ CB.length = Nat.min (n + 1 - i) (n + 1 - (i + 1)) * 2) := ⟨by omega, by simp only [Nat.min_def]; split <;> omega⟩
  have HL2 : Hid (∀ X : List Value, X.length = cur.length → i * 2 + NW.length ≤ X.length) := fun X hX => by omega
  have HL3 : Hid ((splice cur (i * 2 + 2) CB).length = cur.length) := length_splice _ _ _ HL.out.1
  clear hc hl1 hcm
  go_enter Try.func34, Try.ntmps34
  go_wp2_with fail
  go_region_law (refine step_copy_wide rfl (.tmp 73) (.tmp 76) 22 22 rfl 36 2 Try.underlying22 hsz g (i * 2 + 2) (n + 1 - (i + 1)) (c - (i + 1)) ⟨g, i * 2, none⟩ (n + 1 - i) (c - i) (by simp [Act.eval, Act.put, hi2]) (by simp [Act.eval, Act.put]) cur 36 (by exact hg) CB HL.out.2 (HCg.out _ (by exact hg)) HL.out.1 hCB1 ?_; intro w2 G2 K2)
  have K4 : Hid (Chg (fun k => k = g) w w2) := ((Chg.refl _ w).drew).then K2.out
  have HL4 : Hid (NW.length = Nat.min 1 (n + 1 - i) * 2) := by
    show _ = _
    simp only [Nat.min_def]
    split <;> omega
  go_wp2_with (refine wpList_copy_wide rfl (.tmp 80) (.tmp 81) 22 22 rfl 36 2 Try.underlying22 hsz g (i * 2) (n + 1 - i) (c - i) ⟨g0, 0, none⟩ 1 1 rfl rfl (splice cur (i * 2 + 2) CB) 36 G2.out NW HL4.out (HNc.out _ K4.out) (HL2.out _ HL3.out) hN1 ?_; intro w3 G3 K3)
  go_ret
  exact ⟨rfl, HF.out _ G3.out, K4.out.then K3.out⟩

set_option maxRecDepth 100000 in
set_option maxHeartbeats 4000000 in
/-- At the end. -/
theorem insert_end (w : World) (v : Value) (n : Nat) (XS : List Value) (g0 : Nat) (id : Int) (ab : Option Addr) (l cb : Nat) (ho : w.ownsRow 0 36 2 v n XS) (hn : n ≤ 1000) (hb : w.heap[g0]? = some (.cells #[.int .i64 id, .slice ab l cb] 36 (0, 0))) :
    Calls Try.prog 34 #[v, .int .i64 n, .slice (some ⟨g0, 0, none⟩) 1 1] w fun e w' => ∃ v', e = .returned v' ∧ w'.ownsRow 0 36 2 v' (n + 1) (XS ++ [.int .i64 id, .slice ab l cb]) ∧ w.grownBy w' v.ownBlock ∧ (∀ k, v'.ownBlock = some k → v.ownBlock = some k ∨ w.heap.size ≤ k) := by
  obtain ⟨i0, hi, hz0, hz1, hz2⟩ := info_parts' info36
  obtain ⟨a, c, rfl⟩ := owns_shape ho
  have hnews : ∀ (j : Nat) (u : Value), ([.int .i64 id, .slice ab l cb] : List Value)[j]? = some u → w.cell? ((⟨g0, 0, none⟩ : Addr).add j) = some u := by
    intro j u hu
    rw [Addr.add_lit, Nat.zero_add]
    exact (row_cell (xs := [_, _]) hb _ _ hu).1
  have hnn : ((n : Int) == (n : Int)) = true := by simp
  have hc : n ≤ c ∧ c ≤ 9223372036854775807 := by
    rcases ho.2 with ⟨hh, h0⟩ | ⟨g, cap, cur, hh, _, _, h1, h2, _⟩
    · cases hh
      omega
    · cases hh
      unfold maxLen at h2
      omega
  have hci : (c : Int) ≤ 9223372036854775807 := by omega
  obtain ⟨hc1, hc2⟩ := hc
  have h63 : n + 1 ≤ maxLen := by unfold maxLen; omega
  have hby : (n + 1) * 32 ≤ 140737488355328 := by omega
  have fin : ∀ v' w', w'.ownsRow 0 36 2 v' (n + 1) (XS ++ [.int .i64 id, .slice ab l cb]) → w.grownBy w' (Value.slice a n c).ownBlock → (∀ k, v'.ownBlock = some k → (Value.slice a n c).ownBlock = some k ∨ w.heap.size ≤ k) → Hid (∃ v0, v' = v0 ∧ w'.ownsRow 0 36 2 v0 (n + 1) (XS ++ [.int .i64 id, .slice ab l cb]) ∧ w.grownBy w' (Value.slice a n c).ownBlock ∧ (∀ k, v0.ownBlock = some k → (Value.slice a n c).ownBlock = some k ∨ w.heap.size ≤ k)) := fun v' w' h1 h2 h3 => ⟨v', rfl, h1, h2, h3⟩
  have HF : Hid _ := fin
  have HO : Hid (w.ownsRow 0 36 2 (.slice a n c) n XS) := ho
  have HN : Hid _ := hnews
  obtain ⟨NW, hNW⟩ : ∃ NW : List Value, [.int .i64 id, .slice ab l cb] = NW := ⟨_, rfl⟩
  have hNl : NW.length = 1 * 2 := by rw [← hNW]; rfl
  have hN1 : ∀ u ∈ NW, u.oneCell' = true := by rw [← hNW]; exact one_b _ _ _ _
  rw [hNW] at HF HN ⊢
  clear fin hnews hNW hb ho
  go_enter Try.func34, Try.ntmps34
  go_wp2_with (at_builtin; refine wpList_append_at rfl (.tmp 23) (.tmp 24) 22 rfl 36 i0 bz 2 32 Try.underlying22 hi hz0 hz1 hz2 rfl (by decide) (.slice a n c) n XS rfl HO.out ⟨g0, 0, none⟩ 1 1 NW rfl hNl HN.out hN1 h63 hby ?_)
  all_goals
    intro v' w' o1 o2 o3
    obtain ⟨v0, rfl, HF2⟩ := HF.out v' w' o1 (by cases a <;> exact o2) (by cases a <;> exact o3)
    have HF3 : Hid _ := HF2
    clear o1 o2 o3 HF2
    go_wp2
    go_ret
    exact ⟨_, rfl, HF3.out⟩

end Go.Proofs.Ytedhlidmmmlemaa.st
