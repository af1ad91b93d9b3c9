/- Contracts of Read, Sync, Arm. -/
import Derived.Test.YteehphmedmplkaaOps
namespace Go.Proofs.Yteehphmedmplkaa.st
open Go.ChangeShapes Go.WideShapes Go.ChangeAt Go.RowKit Go.Proofs.Yteehphmedmplkaa.hp Go.Proofs.Yteehphmedmplkaa.md
set_option linter.unusedVariables false

theorem began_view (m : Mod) (hf : m.fails = false) : m.began.V = m.V ∧ m.began.W = m.W ∧ m.began.sz = m.sz ∧ m.began.now = m.now := by
  rw [(began_ok m hf).1]
  exact ⟨rfl, rfl, rfl, rfl⟩

theorem began_sz (m : Mod) : m.began.sz = m.sz ∧ m.began.V.length = m.V.length := by
  unfold Mod.began
  split
  · split <;> simp [Mod.crash, redo_length]
  · simp

theorem read_fail {w : World} {p : Nat} {F : Nat → Prop} {m : Mod} (H : St w p F m) (hops : m.ops ≤ 100000000) (hkp : m.kp.length ≤ 100000000000) (hf : m.fails = true) (a : Int) :
    Calls Try.prog 43 #[.pointer (some ⟨p, 0, none⟩), .int .i64 a] w fun e w' => e = .returned (.tuple #[.slice none 0 0, .int .i64 6]) ∧ St w' p F m.began ∧ Chg F w w' := by
  have HB := begin_any H hops hkp
  rw [hf] at HB
  clear hf H
  go_enter Try.func43, Try.ntmps43
  go_wp2_with fail
  refine HB.mono ?_
  rintro e w1 ⟨rfl, s1, k1⟩
  go_wp2
  go_ret2
  exact ⟨rfl, s1, k1⟩

theorem read_out {w : World} {p : Nat} {F : Nat → Prop} {m : Mod} (H : St w p F m) (hops : m.ops ≤ 100000000) (hkp : m.kp.length ≤ 100000000000) (hf : m.fails = false) (a : Int) (ha : ¬ (0 ≤ a ∧ a < m.V.length)) :
    Calls Try.prog 43 #[.pointer (some ⟨p, 0, none⟩), .int .i64 a] w fun e w' => e = .returned (.tuple #[.slice none 0 0, .int .i64 1]) ∧ St w' p F m.began ∧ Chg F w w' := by
  have HB := begin_any H hops hkp
  rw [hf] at HB
  have hh : decide (0 ≤ a ∧ a < m.began.V.length) = false := by rw [(began_sz m).2]; simp only [decide_eq_false_iff_not]; exact ha
  clear hf H ha
  go_enter Try.func43, Try.ntmps43
  go_wp2_with fail
  refine HB.mono ?_
  rintro e w1 ⟨rfl, s1, k1⟩
  have HA := has_any s1 a
  rw [hh] at HA
  clear hh
  go_wp2_with fail
  refine HA.mono ?_
  rintro e w2 ⟨rfl, rfl⟩
  go_wp2
  go_ret2
  exact ⟨rfl, s1, k1⟩

theorem read_in {w : World} {p : Nat} {F : Nat → Prop} {m : Mod} (H : St w p F m) (hops : m.ops ≤ 100000000) (hkp : m.kp.length ≤ 100000000000) (hf : m.fails = false) (a : Nat) (ha : a < m.V.length) :
    Calls Try.prog 43 #[.pointer (some ⟨p, 0, none⟩), .int .i64 a] w fun e w' => ∃ g, e = .returned (.tuple #[.slice (some ⟨g, 0, none⟩) m.sz m.sz, .int .i64 0]) ∧ w.heap.size ≤ g ∧
      w'.heap[g]? = some (.cells ((m.now.getD a dC).2.map (Value.int .u8)).toArray 5 (0, 0)) ∧ St w' p F m.began ∧ Chg F w w' := by
  have HB := begin_any H hops hkp
  rw [hf] at HB
  have hh : decide (0 ≤ (a : Int) ∧ (a : Int) < m.began.V.length) = true := by rw [(began_sz m).2]; simp; omega
  have hlt : a < m.began.V.length := by rw [(began_sz m).2]; exact ha
  have Hn := (began_view m hf).2.2
  clear hf H ha
  go_enter Try.func43, Try.ntmps43
  go_wp2_with fail
  refine HB.mono ?_
  rintro e w1 ⟨rfl, s1, k1⟩
  have HA := has_any s1 a
  rw [hh] at HA
  have HC := copyOf_any s1 a hlt
  rw [Hn.1, Hn.2] at HC
  clear hh Hn hlt
  go_wp2_with fail
  refine HA.mono ?_
  rintro e w2 ⟨rfl, rfl⟩
  go_wp2_with fail
  refine HC.mono ?_
  rintro e w3 ⟨rfl, g3, k3⟩
  go_wp2
  go_ret2
  exact ⟨_, rfl, k1.size, g3, s1.same k3, k1.then (k3.of_no F)⟩

theorem sto_sync {w : World} {p gc : Nat} {F I : Nat → Prop} {m : Mod} {vf vk : Value} (h : Sto w p gc F I m vf vk) : Sto (w.setCell ⟨p, 2, none⟩ (.slice none 0 0)) p gc F I m.sync (.slice none 0 0) vk := by
  have hl := h.now_length
  have c2 : Chg (fun k => k = p) w (w.setCell ⟨p, 2, none⟩ (.slice none 0 0)) := (Chg.refl _ w).setCell _ _ (.inl rfl)
  have hI : ∀ k, I k → ¬ k = p := fun k hk e => h.ip (e ▸ hk)
  refine ⟨?_, ?_, World.ownsRow_nil _ _ _ _, h.kep.chg c2 hI, ?_, by intro x hx; simp [Mod.sync] at hx, by intro x hx; simp [Mod.sync] at hx, ?_, h.pgc, by intro k hk; simp [Value.ownBlock] at hk, h.ip, h.igc, h.fp, h.fgc, h.fi, fun k hk => Nat.lt_of_lt_of_le (h.lt k hk) c2.size⟩
  · rw [h.blk_set 2 (.slice none 0 0)]
    simp [Mod.sync, hl]
  · rw [Below.heap_setCell _ _ _ _ (by simpa using fun e => h.pgc e.symm), h.row]
    simp [Mod.now, Mod.sync, redo]
  · intro x hx
    rcases redo_mem _ _ _ _ (Nat.le_refl _) _ hx with hc | ⟨y, hy, rfl⟩
    · exact (h.bytV _ hc).chg c2 hI
    · exact (h.bytW _ hy).chg c2 hI
  · have := h.num
    simp [Mod.sync, hl]
    omega

theorem sync_fail {w : World} {p : Nat} {F : Nat → Prop} {m : Mod} (H : St w p F m) (hops : m.ops ≤ 100000000) (hkp : m.kp.length ≤ 100000000000) (hf : m.fails = true) :
    Calls Try.prog 48 #[.pointer (some ⟨p, 0, none⟩)] w fun e w' => e = .returned (.int .i64 6) ∧ St w' p F m.began ∧ Chg F w w' := by
  have HB := begin_any H hops hkp
  rw [hf] at HB
  clear hf H
  go_enter Try.func48, Try.ntmps48
  go_wp2_with fail
  refine HB.mono ?_
  rintro e w1 ⟨rfl, s1, k1⟩
  go_wp2
  go_ret
  exact ⟨rfl, s1, k1⟩

theorem sync_ok {w : World} {p : Nat} {F : Nat → Prop} {m : Mod} (H : St w p F m) (hops : m.ops ≤ 100000000) (hkp : m.kp.length ≤ 100000000000) (hf : m.fails = false) :
    Calls Try.prog 48 #[.pointer (some ⟨p, 0, none⟩)] w fun e w' => e = .returned (.int .i64 0) ∧ St w' p F m.began.sync ∧ Chg F w w' := by
  have HB := begin_any H hops hkp
  rw [hf] at HB
  clear hf H
  go_enter Try.func48, Try.ntmps48
  go_wp2_with fail
  refine HB.mono ?_
  rintro e w1 ⟨rfl, s1, k1⟩
  obtain ⟨gc, I, vf, vk, s1⟩ := s1
  have s2 := sto_sync s1
  obtain ⟨c0, c1, c2, c3, c4, c5, c6⟩ := s1.cells
  have f2 := s1.free 2
  have hfp := s1.fp
  clear s1
  go_wp2
  go_ret
  exact ⟨rfl, ⟨gc, I, _, _, s2⟩, k1.setCell _ _ (.inl hfp)⟩

theorem wid_eq {F : Nat → Prop} {w a b : World} (h : b.heap.size = a.heap.size) : Wid F w a = Wid F w b := by unfold Wid; rw [h]

theorem arm_bad {w : World} {p : Nat} (a : Int) (ha : a < 1) (v : Value) :
    Calls Try.prog 19 #[.pointer (some ⟨p, 0, none⟩), .int .i64 a, v] w fun e w' => e = .returned (.bool false) ∧ w' = w := by
  go_enter Try.func19, Try.ntmps19
  go_wp2
  go_ret
  exact ⟨rfl, rfl⟩

/-- New memory joins the blocks that hold bytes. -/
theorem Sto.more {w w' : World} {p gc : Nat} {F I : Nat → Prop} {m : Mod} {vf vk : Value} (h : Sto w p gc F I m vf vk) (c : Chg no w w') : Sto w' p gc (Wid F w w') (fun k => I k ∨ (w.heap.size ≤ k ∧ k < w'.heap.size)) m vf vk := by
  have h' := h.chg c (fun _ _ h => h)
  have hl := h.lt
  refine ⟨h'.blk, h'.row, h'.fly, h'.kep.mono (fun k hk => .inl hk), fun x hx => (h'.bytV x hx).mono (fun k hk => .inl hk), fun x hx => (h'.bytW x hx).mono (fun k hk => .inl hk), h.adr, h.num, h.pgc, ?_, ?_, ?_, .inl h.fp, .inl h.fgc, ?_, ?_⟩
  · intro k hk
    obtain ⟨a1, a2, a3, a4⟩ := h.fpg k hk
    have := hl k a4
    exact ⟨a1, a2, fun e => by rcases e with e | e; exact a3 e; omega, .inl a4⟩
  · intro e
    have := hl p h.fp
    rcases e with e | e
    · exact h.ip e
    · omega
  · intro e
    have := hl gc h.fgc
    rcases e with e | e
    · exact h.igc e
    · omega
  · intro k e
    rcases e with e | e
    · exact .inl (h.fi k e)
    · exact .inr e
  · intro k e
    rcases e with e | e
    · exact Nat.lt_of_lt_of_le (hl k e) c.size
    · exact e.2

theorem arm_ok {w : World} {p : Nat} {F J : Nat → Prop} {m : Mod} (H : St w p F m) (a : Nat) (ha : 1 ≤ a) (ha2 : a ≤ 9223372036854775807) (v : Value) (keep : List Bool) (hk : Lies J w v (keep.map Value.bool)) (hkl : keep.length ≤ 100000000000) (hJ : ∀ k, J k → k < w.heap.size) :
    Calls Try.prog 19 #[.pointer (some ⟨p, 0, none⟩), .int .i64 a, v] w fun e w' => e = .returned (.bool true) ∧ St w' p (Wid F w w') { m with arm := a, kp := keep } ∧ Chg F w w' := by
  obtain ⟨gc, I, vf, vk, H⟩ := H
  have HC := cloneb_any v keep J w hk hkl hJ
  obtain ⟨av, cv, hv, _⟩ := hk.slice
  simp only [List.length_map] at hv
  subst hv
  have hai : (1 : Int) ≤ a := by omega
  clear hk
  go_enter Try.func19, Try.ntmps19
  go_wp2_with fail
  refine HC.mono ?_
  rintro e w1 ⟨v', rfl, o1, k1⟩
  have s1 := H.more k1
  have L1 : Lies (fun k => I k ∨ (w.heap.size ≤ k ∧ k < w1.heap.size)) w1 v' (keep.map Value.bool) := Lies.of_owns o1 (fun k hk => .inr (o1.lt k hk))
  have hc : Chg (fun k => k = p) w1 ((w1.setCell ⟨p, 5, none⟩ (.int .i64 a)).setCell ⟨p, 6, none⟩ v') := ((Chg.refl (fun k => k = p) w1).setCell _ _ (.inl rfl)).setCell _ _ (.inl rfl)
  have s2 : Hid (Sto ((w1.setCell ⟨p, 5, none⟩ (.int .i64 a)).setCell ⟨p, 6, none⟩ v') p gc (Wid F w w1) (fun k => I k ∨ (w.heap.size ≤ k ∧ k < w1.heap.size)) { m with arm := a, kp := keep } vf v') :=
    s1.put (up' := m.up) (ops' := m.ops) (arm' := a) (kp' := keep) hc (by simpa using row_set (s1.blk_set 5 (.int .i64 a)) 6 v') (L1.chg hc (fun k hk e => s1.ip (e ▸ hk))) s1.num.2.2.2.2.1 ha2
  obtain ⟨c0, c1, c2, c3, c4, c5, c6⟩ := s1.cells
  have f5 := s1.free 5
  have f6 := s1.free 6
  have hfp := H.fp
  have hC : Hid (Chg F w ((w1.setCell ⟨p, 5, none⟩ (.int .i64 a)).setCell ⟨p, 6, none⟩ v')) := ((k1.of_no F).setCell _ _ (.inl hfp)).setCell _ _ (.inl hfp)
  obtain ⟨a', c', rfl⟩ := owns_shape o1
  clear s1 H hc L1 o1
  go_wp2
  go_ret
  exact ⟨rfl, ⟨gc, _, _, _, by rw [wid_eq (b := w1) (by simp)]; exact s2.out⟩, hC.out⟩

end Go.Proofs.Yteehphmedmplkaa.st
