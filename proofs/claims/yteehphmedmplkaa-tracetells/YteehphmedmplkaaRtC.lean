/- Contracts of the document's store: Crash, begin, Arm. -/
import Derived.Test.YteehphmedmplkaaRtS
namespace Go.Proofs.Yteehphmedmplkaa.rt
open Go.ChangeShapes Go.WideShapes Go.ChangeAt Go.RowKit Go.Proofs.Yteehphmedmplkaa.hp Go.Proofs.Yteehphmedmplkaa.md Go.Proofs.Yteehphmedmplkaa.st
set_option linter.unusedVariables false

theorem Byt.shape {I : Nat → Prop} {w : World} {sz : Nat} {c : Cell} (h : Byt I w sz c) : ∃ x l k, c.1 = .slice x l k := h.slice

theorem rto_fallen {w w' : World} {q gc : Nat} {F I : Nat → Prop} {m : Mod} {b : Bool} {A : Int} {K : List Bool} {vf vk vt : Value} {t : Nat} {T : List Rec} {keep : List Bool} (h : Rto w q gc F I m b A K vf vk vt t T) (c : Chg (fun k => k = gc) w w')
    (hr : w'.heap[gc]? = some (.cells ((redo m.V m.W (of keep) m.W.length).map (·.1)).toArray 31 (0, 0))) :
    Rto (((w'.setCell ⟨q, 7, none⟩ (.slice none 0 0)).setCell ⟨q, 4, none⟩ (.bool true)).setCell ⟨q, 3, none⟩ (.bool false)) q gc F I (m.crash keep) false A K (.slice none 0 0) vk vt t T := by
  have hl := redo_length m.V m.W (of keep) m.W.length
  have c2 : Chg (fun k => k = gc ∨ k = q) w (((w'.setCell ⟨q, 7, none⟩ (.slice none 0 0)).setCell ⟨q, 4, none⟩ (.bool true)).setCell ⟨q, 3, none⟩ (.bool false)) := by
    have k0 : Chg (fun k => k = gc ∨ k = q) w w' := c.mono fun k hk => .inl (.inl hk)
    have k1 := k0.setCell ⟨q, 7, none⟩ (.slice none 0 0) (.inl (.inr rfl))
    have k2 := k1.setCell ⟨q, 4, none⟩ (.bool true) (.inl (.inr rfl))
    exact k2.setCell ⟨q, 3, none⟩ (.bool false) (.inl (.inr rfl))
  have hI : ∀ k, I k → ¬ (k = gc ∨ k = q) := fun k hk e => by rcases e with rfl | rfl; exact h.igc hk; exact h.ip hk
  have hn := h.num
  refine ⟨?_, ?_, World.ownsRow_nil _ _ _ _, c2.owns h.trc (fun k hk e => by obtain ⟨b1, b2, _⟩ := h.tpg k hk; rcases e with e | e; exact b2 e; exact b1 e), (fun x hx => (h.bytT x hx).chg c2 hI), h.kep.chg c2 hI, ?_, by intro x hx; simp [Mod.crash] at hx, by intro x hx; simp [Mod.crash] at hx, by intro x hx; simp [Mod.crash] at hx, ?_, h.pgc, by intro k hk; simp [Value.ownBlock] at hk,
    fun k hk => by obtain ⟨b1, b2, b3, b4, _⟩ := h.tpg k hk; exact ⟨b1, b2, b3, b4, by simp [Value.ownBlock]⟩, h.ip, h.igc, h.fp, h.fgc, h.fi, fun k hk => Nat.lt_of_lt_of_le (h.lt k hk) c2.size⟩
  · have hb := c.heap h.blk h.pgc
    have e1 := row_set (xs := [_, _, _, _, _, _, _, _, _]) hb 7 (.slice none 0 0)
    have e2 := row_set e1 4 (.bool true)
    have e3 := row_set e2 3 (.bool false)
    rw [e3]
    simp [Mod.crash, hl]
  · have hne : ¬ gc = q := fun e => h.pgc e.symm
    rw [Below.heap_setCell _ _ _ _ (by simpa using hne), Below.heap_setCell _ _ _ _ (by simpa using hne), Below.heap_setCell _ _ _ _ (by simpa using hne), hr]
    simp [Mod.crash]
  · intro x hx
    rcases redo_mem _ _ _ _ (Nat.le_refl _) _ hx with hc | ⟨y, hy, rfl⟩
    · exact (h.bytV _ hc).chg c2 hI
    · exact (h.bytW _ hy).chg c2 hI
  · simp [Mod.crash, hl]
    omega

set_option maxHeartbeats 2000000 in
theorem rcrash_up {w : World} {q gc : Nat} {F I J : Nat → Prop} {m : Mod} {b : Bool} {A : Int} {K : List Bool} {vf vk vt : Value} {t : Nat} {T : List Rec} (h : Rto w q gc F I m b A K vf vk vt t T) (hup : m.up = true) (hops : m.ops ≤ 1000000000) (v : Value) (keep : List Bool) (hk : Lies J w v (keep.map Value.bool)) (hkl : keep.length ≤ 100000000000) (hJ : ∀ k, J k → k ≠ gc) :
    Calls Try.prog 22 #[.pointer (some ⟨q, 0, none⟩), v] w fun e w' => e = .returned (.bool true) ∧ Rto w' q gc F I (m.crash keep) false A K (.slice none 0 0) vk vt t T ∧ Chg (fun k => k = gc ∨ k = q) w w' := by
  obtain ⟨c0, c1, c2, c3, c4, c5, c6, c7, c8⟩ := h.cells
  rw [hup] at c4
  obtain ⟨af, cf, rfl, hfly⟩ := h.flyAt
  obtain ⟨ak, ck, rfl, hkp⟩ := lies_bool hk
  have hn := h.num
  have hqgc := h.pgc
  have hgcq : ¬ gc = q := fun e => h.pgc e.symm
  have hV : m.V.length ≤ 65536 := hn.2.2.2.1
  have hWb : m.W.length ≤ 1000000000 := by omega
  obtain ⟨n, hnn⟩ : ∃ n, n = m.W.length := ⟨_, rfl⟩
  rw [← hnn] at c7 hfly hWb
  have HN : Hid (n = m.W.length) := hnn
  have H := h
  have HF : Hid (∀ i, i < n → ∃ gf, af = some ⟨gf, 0, none⟩ ∧ gf ≠ q ∧ gf ≠ gc ∧ gf < w.heap.size ∧ w.cell? ⟨gf, i * 2, none⟩ = some (.int .i64 (m.W.getD i dW).1) ∧
      w.cell? ⟨gf, i * 2 + 1, none⟩ = some (m.W.getD i dW).2.1 ∧ (m.W.getD i dW).1 < m.V.length ∧ Byt I w m.sz (m.W.getD i dW).2 ∧ Lies I w (m.W.getD i dW).2.1 ((m.W.getD i dW).2.2.map (Value.int .u8))) := hfly
  have HK : Hid (∀ i, i < keep.length → ∃ x, ak = some x ∧ J x.block ∧ w.cell? (x.add i) = some (.bool (keep.getD i false))) := hkp
  have HR : Hid (w.heap[gc]? = some (.cells ((redo m.V m.W (of keep) 0).map (·.1)).toArray 31 (0, 0))) := h.row
  have HH : Hid (Rto w q gc F I m b A K (.slice af m.W.length cf) vk vt t T) := h
  have hq7 := h.free 7
  have hq4 := h.free 4
  have hq3 := h.free 3
  clear hnn hfly hkp h hk hn H
  go_enter Try.func22, Try.ntmps22
  go_wp2_with fail
  go_loopw [5] (fun i wr => ∃ k : Nat, k ≤ n ∧ i = .int .i64 (k : Int) ∧ wr.heap[gc]? = some (.cells ((redo m.V m.W (of keep) k).map (·.1)).toArray 31 (0, 0)) ∧ Chg (fun k => k = gc) w wr) (fun i _ => n - (intOf i).toNat)
  case atStart => exact ⟨0, by omega, rfl, HR.out, Chg.refl _ _⟩
  case round =>
    obtain ⟨k, hk, rfl, hrw, C⟩ := hrel
    have e6 := C.cell c6 hqgc
    have e7 := C.cell c7 hqgc
    by_cases hkn : k < n
    · obtain ⟨gf, rfl, g1, g2, _, f0, f1, hlt, hby, _⟩ := HF.out k hkn
      have d0 := C.cell f0 g2
      have d1 := C.cell f1 g2
      obtain ⟨ax, al, ac, hAs⟩ := hby.slice
      obtain ⟨Ad, hA⟩ : ∃ A, (m.W.getD k dW).1 = A := ⟨_, rfl⟩
      rw [hAs] at d1
      rw [hA] at d0 hlt
      have hAl : (Ad : Int) < m.V.length := by omega
      have hknI : (k : Int) < n := by omega
      obtain ⟨u, hu⟩ : ∃ u, ((redo m.V m.W (of keep) k).map (·.1))[Ad]? = some u := by
        rw [List.getElem?_eq_getElem (by simp [redo_length]; omega)]; exact ⟨_, rfl⟩
      obtain ⟨x1, x2⟩ := row_cell hrw Ad u hu
      clear f0 f1 hby
      by_cases hkl : k < keep.length
      · obtain ⟨x, rfl, hx, q0⟩ := HK.out k hkl
        have q1 := C.cell q0 (by rw [add_block]; exact hJ _ hx)
        have hklI : (k : Int) < keep.length := by omega
        obtain ⟨kb, hkb⟩ : ∃ b, keep.getD k false = b := ⟨_, rfl⟩
        rw [hkb] at q1
        clear q0
        rcases kb with _ | _
        · have HB : Hid (wr.heap[gc]? = some (.cells ((redo m.V m.W (of keep) (k + 1)).map (·.1)).toArray 31 (0, 0))) := by
            rw [redo_skip _ _ _ _ hkb]; exact hrw
          clear hrw hu
          go_wp2
          go_roundw
          case rel => exact ⟨k + 1, by omega, by go_num, HB.out, C⟩
          case measure => simp [intOf]; omega
        · have HB : Hid ((wr.setCell ⟨gc, Ad, none⟩ (.slice ax al ac)).heap[gc]? = some (.cells ((redo m.V m.W (of keep) (k + 1)).map (·.1)).toArray 31 (0, 0))) := by
            have := row_set hrw Ad (.slice ax al ac)
            rw [redo_map_set _ _ _ _ hkb, hA, hAs]
            exact this
          have HC : Hid (Chg (fun k => k = gc) w (wr.setCell ⟨gc, Ad, none⟩ (.slice ax al ac))) := C.setCell _ _ (.inl rfl)
          clear hrw hu C
          go_wp2_with fail
          go_region
          all_goals go_wp2
          all_goals go_roundw
          case rel => exact ⟨k + 1, by omega, by go_num, HB.out, HC.out.drew⟩
          case measure => simp [intOf]; omega
      · have hklI : (keep.length : Int) ≤ k := by omega
        have hkb : of keep k = false := by unfold of; rw [List.getD_eq_getElem?_getD, List.getElem?_eq_none (by omega)]; rfl
        have HB : Hid (wr.heap[gc]? = some (.cells ((redo m.V m.W (of keep) (k + 1)).map (·.1)).toArray 31 (0, 0))) := by
          rw [redo_skip _ _ _ _ hkb]; exact hrw
        clear hrw hu
        go_wp2
        go_roundw
        case rel => exact ⟨k + 1, by omega, by go_num, HB.out, C⟩
        case measure => simp [intOf]; omega
    · obtain rfl : k = n := by omega
      have hkn' : (k : Int) ≤ k := by omega
      have hqb := C.block q (HH.out.lt q HH.out.fp) hqgc
      have fz7 : wr.frozen? ⟨q, 7, none⟩ = false := (World.frozen?_of_block hqb).trans hq7
      have fz4 : wr.frozen? ⟨q, 4, none⟩ = false := (World.frozen?_of_block hqb).trans hq4
      have fz3 : wr.frozen? ⟨q, 3, none⟩ = false := (World.frozen?_of_block hqb).trans hq3
      have e4 := C.cell c4 hqgc
      have e3 := C.cell c3 hqgc
      go_wp2
      go_ret
      refine ⟨rfl, rto_fallen HH.out C (by rw [← HN.out]; exact hrw), ?_⟩
      have k0 : Chg (fun k => k = gc ∨ k = q) w wr := C.mono fun k hk => .inl (.inl hk)
      have k1 := k0.setCell ⟨q, 7, none⟩ (.slice none 0 0) (.inl (.inr rfl))
      have k2 := k1.setCell ⟨q, 4, none⟩ (.bool true) (.inl (.inr rfl))
      exact k2.setCell ⟨q, 3, none⟩ (.bool false) (.inl (.inr rfl))

theorem rcrash_down {w : World} {q : Nat} {F : Nat → Prop} {m : Mod} {T : List Rec} (h : Rt w q F m T) (hup : m.up = false) (a : Option Addr) (l c : Nat) :
    Calls Try.prog 22 #[.pointer (some ⟨q, 0, none⟩), .slice a l c] w fun e w' => e = .returned (.bool false) ∧ w' = w := by
  obtain ⟨gc, I, b, A, K, vf, vk, vt, t, H, hb, hA⟩ := h
  obtain ⟨c0, c1, c2, c3, c4, c5, c6, c7, c8⟩ := H.cells
  rw [hup] at c4
  go_enter Try.func22, Try.ntmps22
  go_wp2
  go_ret
  exact ⟨rfl, rfl⟩

theorem Rto.chgF {w w' : World} {q gc : Nat} {F I : Nat → Prop} {m : Mod} {b : Bool} {A : Int} {K : List Bool} {vf vk vt : Value} {t : Nat} {T : List Rec} (h : Rto w q gc F I m b A K vf vk vt t T) (c : Chg (fun k => k = gc ∨ k = q) w w') : Chg F w w' :=
  c.mono fun k hk => .inl (by rcases hk with rfl | rfl; exact h.fgc; exact h.fp)

theorem rcrash_any {w : World} {q : Nat} {F J : Nat → Prop} {m : Mod} {T : List Rec} (h : Rt w q F m T) (hup : m.up = true) (hops : m.ops ≤ 1000000000) (v : Value) (keep : List Bool) (hk : Lies J w v (keep.map Value.bool)) (hkl : keep.length ≤ 100000000000) (hJ : ∀ k, J k → ¬ F k) :
    Calls Try.prog 22 #[.pointer (some ⟨q, 0, none⟩), v] w fun e w' => e = .returned (.bool true) ∧ Rt w' q F (m.crash keep) T ∧ Chg F w w' := by
  obtain ⟨gc, I, b, A, K, vf, vk, vt, t, h, hb, hA⟩ := h
  refine (rcrash_up h hup hops v keep hk hkl (fun k hk e => hJ k hk (e ▸ h.fgc))).mono ?_
  rintro e w' ⟨rfl, s, c⟩
  exact ⟨rfl, ⟨gc, I, false, A, K, _, vk, vt, t, s, rfl, fun h => (h rfl).elim⟩, h.chgF c⟩

/-- The document's store, with room for one more record. -/
def Rt1 (w : World) (q : Nat) (F : Nat → Prop) (m : Mod) (T : List Rec) : Prop := ∃ gc I b A K vf vk vt t, Rto w q gc F I m b A K vf vk vt t T ∧ (b = decide (m.arm ≠ 0) ∧ (m.arm ≠ 0 → A = m.arm ∧ K = m.kp)) ∧ t + 1 ≤ m.ops

set_option maxRecDepth 100000 in
set_option maxHeartbeats 1000000 in
theorem rbegin_any {w : World} {q : Nat} {F : Nat → Prop} {m : Mod} {T : List Rec} (H : Rt w q F m T) (hops : m.ops ≤ 100000000) (hkp : m.kp.length ≤ 100000000000) :
    Calls Try.prog 45 #[.pointer (some ⟨q, 0, none⟩)] w fun e w' => e = .returned (.bool (!m.fails)) ∧ Rt w' q F m.began T ∧ Chg F w w' ∧ (m.fails = false → Rt1 w' q F m.began T) := by
  obtain ⟨gc, I, b, A, K, vf, vk, vt, t, H, hb, hA⟩ := H
  obtain ⟨sz, V, W, up, ops, arm, kp⟩ := m
  obtain ⟨c0, c1, c2, c3, c4, c5, c6, c7, c8⟩ := H.cells
  have f2 := H.free 2
  have f1 := H.free 1
  have hkI : ∀ k, I k → ¬ k = q := fun k hk e => H.ip (e ▸ hk)
  have hn := H.num
  have hfp := H.fp
  simp only at c0 c1 c2 c3 c4 c5 c6 c7 c8 hops hkp hn hb hA
  have HT : Hid (t + 1 ≤ ops + 1) := by show t + 1 ≤ ops + 1; omega
  have hc1 : Chg (fun k => k = q) w (w.setCell ⟨q, 2, none⟩ (.int .i64 ((ops : Int) + 1))) := (Chg.refl _ w).setCell _ _ (.inl rfl)
  have s1 : Rto (w.setCell ⟨q, 2, none⟩ (.int .i64 ((ops : Int) + 1))) q gc F I ⟨sz, V, W, up, ops + 1, arm, kp⟩ b A K vf vk vt t T :=
    H.put (up' := up) (ops' := ops + 1) (arm' := arm) (kp' := kp) hc1 (by simpa using H.blk_set 2 (.int .i64 ((ops : Int) + 1))) (H.kep.chg hc1 hkI) (by simp only; omega) (by omega)
  rcases up with _ | _
  · have HH : Hid (Rto w q gc F I ⟨sz, V, W, false, ops, arm, kp⟩ b A K vf vk vt t T ∧ b = decide (arm ≠ 0) ∧ (arm ≠ 0 → A = arm ∧ K = kp)) := ⟨H, hb, hA⟩
    clear H s1 hA hb
    go_enter Try.func45, Try.ntmps45
    go_wp2
    go_ret
    exact ⟨rfl, ⟨gc, I, b, A, K, vf, vk, vt, t, HH.out⟩, Chg.refl _ _, fun h => by simp [Mod.fails] at h⟩
  · have ha : arm = 0 ∨ arm = 1 ∨ 2 ≤ arm := by omega
    rcases ha with rfl | rfl | ha
    · have hb' : b = false := hb
      subst hb'
      have HH : Hid (Rto (w.setCell ⟨q, 2, none⟩ (.int .i64 ((ops : Int) + 1))) q gc F I ⟨sz, V, W, true, ops + 1, 0, kp⟩ false A K vf vk vt t T) := s1
      clear H s1 hA hb
      go_enter Try.func45, Try.ntmps45
      go_wp2
      go_ret
      exact ⟨rfl, ⟨gc, I, false, A, K, vf, vk, vt, t, HH.out, rfl, fun h => (h rfl).elim⟩, (Chg.refl F w).setCell _ _ (.inl hfp), fun _ => ⟨gc, I, false, A, K, vf, vk, vt, t, HH.out, ⟨rfl, fun h => (h rfl).elim⟩, HT.out⟩⟩
    · have hb' : b = true := hb
      obtain ⟨hA1, hK1⟩ := hA (by omega)
      obtain rfl : A = 1 := hA1
      subst hK1 hb'
      have hc2 : Chg (fun k => k = q) (w.setCell ⟨q, 2, none⟩ (.int .i64 ((ops : Int) + 1))) ((w.setCell ⟨q, 2, none⟩ (.int .i64 ((ops : Int) + 1))).setCell ⟨q, 1, none⟩ (.int .i64 0)) := (Chg.refl _ _).setCell _ _ (.inl rfl)
      have s2 : Rto ((w.setCell ⟨q, 2, none⟩ (.int .i64 ((ops : Int) + 1))).setCell ⟨q, 1, none⟩ (.int .i64 0)) q gc F I ⟨sz, V, W, true, ops + 1, 1, K⟩ true 0 K vf vk vt t T :=
        s1.put (up' := true) (ops' := ops + 1) (arm' := 1) (kp' := K) (K' := K) hc2 (by simpa using s1.blk_set 1 (.int .i64 0)) (s1.kep.chg hc2 hkI) (Nat.le_refl _) (by omega)
      have HC := rcrash_up (J := I) s2 rfl (by simp only; omega) vk K s2.kep hkp (fun k hk e => s2.igc (e ▸ hk))
      obtain ⟨av, cv, hvk, _⟩ := H.kep.slice
      simp only [List.length_map] at hvk
      subst hvk
      have H1 : Hid (Chg F w ((w.setCell ⟨q, 2, none⟩ (.int .i64 ((ops : Int) + 1))).setCell ⟨q, 1, none⟩ (.int .i64 0))) := ((Chg.refl F w).setCell _ _ (.inl hfp)).setCell _ _ (.inl hfp)
      have H2 : Hid (∀ w', Chg (fun k => k = gc ∨ k = q) ((w.setCell ⟨q, 2, none⟩ (.int .i64 ((ops : Int) + 1))).setCell ⟨q, 1, none⟩ (.int .i64 0)) w' → Chg F ((w.setCell ⟨q, 2, none⟩ (.int .i64 ((ops : Int) + 1))).setCell ⟨q, 1, none⟩ (.int .i64 0)) w') := fun w' => s2.chgF
      clear s1 s2 hc1 hc2 H hA hb
      go_enter Try.func45, Try.ntmps45
      go_wp2_with fail
      refine HC.mono ?_
      rintro e w1 ⟨rfl, s3, k3⟩
      have H3 := H1.out.then (H2.out _ k3)
      go_wp2
      go_ret
      exact ⟨rfl, ⟨gc, I, false, _, _, _, _, vt, t, s3, rfl, fun h => (h rfl).elim⟩, H3, fun h => by simp [Mod.fails] at h⟩
    · have hb' : b = true := by rw [hb]; simp; omega
      obtain ⟨hA1, hK1⟩ := hA (by omega)
      subst hA1 hK1 hb'
      have hc2 : Chg (fun k => k = q) (w.setCell ⟨q, 2, none⟩ (.int .i64 ((ops : Int) + 1))) ((w.setCell ⟨q, 2, none⟩ (.int .i64 ((ops : Int) + 1))).setCell ⟨q, 1, none⟩ (.int .i64 ((arm : Int) - 1))) := (Chg.refl _ _).setCell _ _ (.inl rfl)
      have s2 : Hid (Rto ((w.setCell ⟨q, 2, none⟩ (.int .i64 ((ops : Int) + 1))).setCell ⟨q, 1, none⟩ (.int .i64 ((arm : Int) - 1))) q gc F I ⟨sz, V, W, true, ops + 1, arm - 1, K⟩ true ((arm : Int) - 1) K vf vk vt t T) :=
        s1.put (up' := true) (ops' := ops + 1) (arm' := arm - 1) (kp' := K) (K' := K) hc2 (by simpa using s1.blk_set 1 (.int .i64 ((arm : Int) - 1))) (s1.kep.chg hc2 hkI) (Nat.le_refl _) (by omega)
      have e1 : (⟨sz, V, W, true, ops, arm, K⟩ : Mod).fails = false := by simp [Mod.fails]; omega
      have e2 := (began_ok _ e1).1
      rw [e1, e2]
      have H1 : Hid (Chg F w ((w.setCell ⟨q, 2, none⟩ (.int .i64 ((ops : Int) + 1))).setCell ⟨q, 1, none⟩ (.int .i64 ((arm : Int) - 1)))) := ((Chg.refl F w).setCell _ _ (.inl hfp)).setCell _ _ (.inl hfp)
      have H4 : Hid (true = decide (arm - 1 ≠ 0) ∧ (arm - 1 ≠ 0 → (arm : Int) - 1 = ((arm - 1 : Nat) : Int) ∧ K = K)) := ⟨by simp; omega, fun _ => ⟨by omega, rfl⟩⟩
      have ha1 : ¬ ((arm : Int) - 1 = 0) := by omega
      have ha2 : (2 : Int) ≤ arm := by omega
      have ha3 : (arm : Int) ≤ 9223372036854775807 := by omega
      clear s1 hc1 hc2 H e1 e2 hA hb
      go_enter Try.func45, Try.ntmps45
      go_wp2
      go_ret
      exact ⟨rfl, ⟨gc, I, true, _, K, vf, vk, vt, t, s2.out, H4.out.1, fun h => ⟨(H4.out.2 h).1, rfl⟩⟩, H1.out, ⟨gc, I, true, _, K, vf, vk, vt, t, s2.out, ⟨H4.out.1, fun h => ⟨(H4.out.2 h).1, rfl⟩⟩, HT.out⟩⟩

end Go.Proofs.Yteehphmedmplkaa.rt
