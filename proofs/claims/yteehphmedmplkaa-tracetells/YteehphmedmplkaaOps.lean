/- Contracts of Crash, Reboot, begin, Read, Sync, Arm. -/
import Derived.Test.YteehphmedmplkaaSettle
namespace Go.Proofs.Yteehphmedmplkaa.st
open Go.ChangeShapes Go.WideShapes Go.ChangeAt Go.RowKit Go.Proofs.Yteehphmedmplkaa.hp Go.Proofs.Yteehphmedmplkaa.md
set_option linter.unusedVariables false

section
variable {w w' : World} {p gc : Nat} {F G I J : Nat → Prop} {m : Mod} {vf vk : Value}

theorem Sto.put (h : Sto w p gc F I m vf vk) (c : Chg (fun k => k = p) w w') {up' : Bool} {ops' arm' : Nat} {kp' : List Bool} {vk' : Value}
    (hb : w'.heap[p]? = some (.cells #[.int .i64 m.sz, .slice (some ⟨gc, 0, none⟩) m.V.length m.V.length, vf, .bool up', .int .i64 ops', .int .i64 arm', vk'] 83 (0, 0)))
    (hk : Lies I w' vk' (kp'.map Value.bool)) (ho : m.W.length ≤ ops') (ha : arm' ≤ 9223372036854775807) : Sto w' p gc F I ⟨m.sz, m.V, m.W, up', ops', arm', kp'⟩ vf vk' := by
  have hI : ∀ k, I k → ¬ k = p := fun k hk e => h.ip (e ▸ hk)
  have := h.num
  exact ⟨hb, c.heap h.row (fun e => h.pgc e.symm), c.owns h.fly (fun k hk => (h.fpg k hk).1), hk, fun x hx => (h.bytV x hx).chg c hI, fun x hx => (h.bytW x hx).chg c hI, h.adr, ⟨this.1, this.2.1, this.2.2.1, this.2.2.2.1, ho, ha⟩,
    h.pgc, h.fpg, h.ip, h.igc, h.fp, h.fgc, h.fi, fun k hk => Nat.lt_of_lt_of_le (h.lt k hk) c.size⟩

theorem Sto.blk_set (h : Sto w p gc F I m vf vk) (j : Nat) (u : Value) : (w.setCell ⟨p, j, none⟩ u).heap[p]? = some (.cells (([.int .i64 m.sz, .slice (some ⟨gc, 0, none⟩) m.V.length m.V.length, vf, .bool m.up, .int .i64 m.ops, .int .i64 m.arm, vk] : List Value).set j u).toArray 83 (0, 0)) :=
  row_set (xs := [_, _, _, _, _, _, _]) h.blk j u

/-- Behind settle and the three stores of Crash. -/
theorem Sto.fallen (h : Sto w p gc F I m vf vk) : Sto (((w.setCell ⟨p, 3, none⟩ (.bool false)).setCell ⟨p, 5, none⟩ (.int .i64 0)).setCell ⟨p, 6, none⟩ (.slice none 0 0)) p gc F I { m with up := false, arm := 0, kp := [] } vf (.slice none 0 0) := by
  have hc : Chg (fun k => k = p) w (((w.setCell ⟨p, 3, none⟩ (.bool false)).setCell ⟨p, 5, none⟩ (.int .i64 0)).setCell ⟨p, 6, none⟩ (.slice none 0 0)) := (((Chg.refl (fun k => k = p) w).setCell _ _ (.inl rfl)).setCell _ _ (.inl rfl)).setCell _ _ (.inl rfl)
  refine h.put (up' := false) (ops' := m.ops) (arm' := 0) (kp' := []) (vk' := .slice none 0 0) hc ?_ (.inl ⟨rfl, rfl⟩) h.num.2.2.2.2.1 (by omega)
  have h1 := h.blk_set 3 (.bool false)
  have h2 := row_set h1 5 (.int .i64 0)
  have h3 := row_set h2 6 (.slice none 0 0)
  simpa using h3

theorem Sto.chgF (h : Sto w p gc F I m vf vk) (c : Chg (fun k => k = gc ∨ k = p) w w') : Chg F w w' := c.mono fun k hk => .inl (by rcases hk with rfl | rfl; exact h.fgc; exact h.fp)
end

set_option maxHeartbeats 1000000 in
theorem crash_up {w : World} {p gc : Nat} {F I J : Nat → Prop} {m : Mod} {vf vk : Value} (h : Sto w p gc F I m vf vk) (hup : m.up = true) (hops : m.ops ≤ 1000000000) (v : Value) (keep : List Bool) (hk : Lies J w v (keep.map Value.bool)) (hkl : keep.length ≤ 100000000000) (hJ : ∀ k, J k → k ≠ gc) :
    Calls Try.prog 21 #[.pointer (some ⟨p, 0, none⟩), v] w fun e w' => e = .returned (.bool true) ∧ Sto w' p gc F I (m.crash keep) (.slice none 0 0) (.slice none 0 0) ∧ Chg (fun k => k = gc ∨ k = p) w w' := by
  obtain ⟨c0, c1, c2, c3, c4, c5, c6⟩ := h.cells
  have hcr : Sto w p gc F I m vf vk := h
  rw [hup] at c3
  have HS := settle_any h hops v keep hk hkl hJ
  obtain ⟨a, c, hv, _⟩ := hk.slice
  simp only [List.length_map] at hv
  subst hv
  clear hcr h hk hJ
  go_enter Try.func21, Try.ntmps21
  go_wp2_with fail
  refine HS.mono ?_
  rintro e w1 ⟨rfl, s1, k1⟩
  obtain ⟨d0, d1, d2, d3, d4, d5, d6⟩ := s1.cells
  have f3 := s1.free 3
  have f5 := s1.free 5
  have f6 := s1.free 6
  go_wp2
  go_ret
  refine ⟨rfl, s1.fallen, ?_⟩
  have k2 := k1.setCell ⟨p, 3, none⟩ (.bool false) (.inl (.inr rfl))
  have k3 := k2.setCell ⟨p, 5, none⟩ (.int .i64 0) (.inl (.inr rfl))
  exact k3.setCell ⟨p, 6, none⟩ (.slice none 0 0) (.inl (.inr rfl))

theorem crash_down {w : World} {p : Nat} {F : Nat → Prop} {m : Mod} (h : St w p F m) (hup : m.up = false) (a : Option Addr) (l c : Nat) :
    Calls Try.prog 21 #[.pointer (some ⟨p, 0, none⟩), .slice a l c] w fun e w' => e = .returned (.bool false) ∧ w' = w := by
  obtain ⟨gc, I, vf, vk, h⟩ := h
  obtain ⟨c0, c1, c2, c3, c4, c5, c6⟩ := h.cells
  rw [hup] at c3
  go_enter Try.func21, Try.ntmps21
  go_wp2
  go_ret
  exact ⟨rfl, rfl⟩

/-- Crash, of a store that is up. -/
theorem crash_any {w : World} {p : Nat} {F J : Nat → Prop} {m : Mod} (h : St w p F m) (hup : m.up = true) (hops : m.ops ≤ 1000000000) (v : Value) (keep : List Bool) (hk : Lies J w v (keep.map Value.bool)) (hkl : keep.length ≤ 100000000000) (hJ : ∀ k, J k → ¬ F k) :
    Calls Try.prog 21 #[.pointer (some ⟨p, 0, none⟩), v] w fun e w' => e = .returned (.bool true) ∧ St w' p F (m.crash keep) ∧ Chg F w w' := by
  obtain ⟨gc, I, vf, vk, h⟩ := h
  refine (crash_up h hup hops v keep hk hkl (fun k hk e => hJ k hk (e ▸ h.fgc))).mono ?_
  rintro e w' ⟨rfl, s, c⟩
  exact ⟨rfl, ⟨gc, I, _, _, s⟩, h.chgF c⟩

theorem reboot_any {w : World} {p : Nat} {F : Nat → Prop} {m : Mod} (h : St w p F m) :
    Calls Try.prog 23 #[.pointer (some ⟨p, 0, none⟩)] w fun e w' => e = .returned (.bool (!m.up)) ∧ St w' p F { m with up := true } ∧ Chg F w w' := by
  obtain ⟨gc, I, vf, vk, h⟩ := h
  obtain ⟨c0, c1, c2, c3, c4, c5, c6⟩ := h.cells
  have f3 := h.free 3
  obtain ⟨b, hb⟩ : ∃ b, m.up = b := ⟨_, rfl⟩
  rw [hb] at c3 ⊢
  rcases b with _ | _
  · go_enter Try.func23, Try.ntmps23
    go_wp2
    go_ret
    refine ⟨rfl, ⟨gc, I, vf, vk, ?_⟩, (Chg.refl F w).setCell _ _ (.inl h.fp)⟩
    have hc : Chg (fun k => k = p) w (w.setCell ⟨p, 3, none⟩ (.bool true)) := (Chg.refl _ w).setCell _ _ (.inl rfl)
    exact h.put hc (by simpa using h.blk_set 3 (.bool true)) (h.kep.chg hc (fun k hk e => h.ip (e ▸ hk))) h.num.2.2.2.2.1 h.num.2.2.2.2.2
  · go_enter Try.func23, Try.ntmps23
    go_wp2
    go_ret
    refine ⟨rfl, ⟨gc, I, vf, vk, ?_⟩, Chg.refl F w⟩
    have : ({ m with up := true } : Mod) = m := by rw [← hb]
    rw [this]; exact h

theorem began_ops (m : Mod) : m.began.ops ≤ m.ops + 1 := by
  unfold Mod.began
  split
  · split <;> simp [Mod.crash]
  · omega

theorem began_ok (m : Mod) (h : m.fails = false) : m.began = { m with ops := m.ops + 1, arm := m.arm - 1 } ∧ m.up = true ∧ m.arm ≠ 1 := by
  unfold Mod.fails at h
  simp at h
  unfold Mod.began
  simp [h.1, h.2]

set_option maxHeartbeats 1000000 in
theorem begin_any {w : World} {p : Nat} {F : Nat → Prop} {m : Mod} (H : St w p F m) (hops : m.ops ≤ 100000000) (hkp : m.kp.length ≤ 100000000000) :
    Calls Try.prog 58 #[.pointer (some ⟨p, 0, none⟩)] w fun e w' => e = .returned (.int .i64 (if m.fails then 6 else 0)) ∧ St w' p F m.began ∧ Chg F w w' := by
  obtain ⟨gc, I, vf, vk, H⟩ := H
  obtain ⟨sz, V, W, up, ops, arm, kp⟩ := m
  obtain ⟨c0, c1, c2, c3, c4, c5, c6⟩ := H.cells
  have f4 := H.free 4
  have f5 := H.free 5
  have hkI : ∀ k, I k → ¬ k = p := fun k hk e => H.ip (e ▸ hk)
  have hn := H.num
  have hfp := H.fp
  simp only at c0 c1 c2 c3 c4 c5 c6 hops hkp hn
  have hc1 : Chg (fun k => k = p) w (w.setCell ⟨p, 4, none⟩ (.int .i64 ((ops : Int) + 1))) := (Chg.refl _ w).setCell _ _ (.inl rfl)
  have s1 : Sto (w.setCell ⟨p, 4, none⟩ (.int .i64 ((ops : Int) + 1))) p gc F I ⟨sz, V, W, up, ops + 1, arm, kp⟩ vf vk :=
    H.put (up' := up) (ops' := ops + 1) (arm' := arm) (kp' := kp) hc1 (by simpa using H.blk_set 4 (.int .i64 ((ops : Int) + 1))) (H.kep.chg hc1 hkI) (by simp only; omega) (by omega)
  rcases up with _ | _
  · have HH : Hid (Sto w p gc F I ⟨sz, V, W, false, ops, arm, kp⟩ vf vk) := H
    clear H s1
    go_enter Try.func58, Try.ntmps58
    go_wp2
    go_ret
    exact ⟨rfl, ⟨gc, I, vf, vk, HH.out⟩, Chg.refl _ _⟩
  · have ha : arm = 0 ∨ arm = 1 ∨ 2 ≤ arm := by omega
    rcases ha with rfl | rfl | ha
    · have HH : Hid (Sto (w.setCell ⟨p, 4, none⟩ (.int .i64 ((ops : Int) + 1))) p gc F I ⟨sz, V, W, true, ops + 1, 0, kp⟩ vf vk) := s1
      clear H s1
      go_enter Try.func58, Try.ntmps58
      go_wp2
      go_ret
      exact ⟨rfl, ⟨gc, I, vf, vk, HH.out⟩, (Chg.refl F w).setCell _ _ (.inl hfp)⟩
    · have hc2 : Chg (fun k => k = p) (w.setCell ⟨p, 4, none⟩ (.int .i64 ((ops : Int) + 1))) ((w.setCell ⟨p, 4, none⟩ (.int .i64 ((ops : Int) + 1))).setCell ⟨p, 5, none⟩ (.int .i64 0)) := (Chg.refl _ _).setCell _ _ (.inl rfl)
      have s2 : Sto ((w.setCell ⟨p, 4, none⟩ (.int .i64 ((ops : Int) + 1))).setCell ⟨p, 5, none⟩ (.int .i64 0)) p gc F I ⟨sz, V, W, true, ops + 1, 0, kp⟩ vf vk :=
        s1.put (up' := true) (ops' := ops + 1) (arm' := 0) (kp' := kp) hc2 (by simpa using s1.blk_set 5 (.int .i64 0)) (s1.kep.chg hc2 hkI) (by simp only; omega) (by omega)
      have HC := crash_up (J := I) s2 rfl (by simp only; omega) vk kp s2.kep hkp (fun k hk e => s2.igc (e ▸ hk))
      obtain ⟨av, cv, hvk, _⟩ := H.kep.slice
      simp only [List.length_map] at hvk
      subst hvk
      have H1 : Hid (Chg F w ((w.setCell ⟨p, 4, none⟩ (.int .i64 ((ops : Int) + 1))).setCell ⟨p, 5, none⟩ (.int .i64 0))) := ((Chg.refl F w).setCell _ _ (.inl hfp)).setCell _ _ (.inl hfp)
      have H2 : Hid (∀ w', Chg (fun k => k = gc ∨ k = p) ((w.setCell ⟨p, 4, none⟩ (.int .i64 ((ops : Int) + 1))).setCell ⟨p, 5, none⟩ (.int .i64 0)) w' → Chg F ((w.setCell ⟨p, 4, none⟩ (.int .i64 ((ops : Int) + 1))).setCell ⟨p, 5, none⟩ (.int .i64 0)) w') := fun w' => s2.chgF
      clear s1 s2 hc1 hc2 H
      go_enter Try.func58, Try.ntmps58
      go_wp2_with fail
      refine HC.mono ?_
      rintro e w1 ⟨rfl, s3, k3⟩
      have H3 := H1.out.then (H2.out _ k3)
      go_wp2
      go_ret
      exact ⟨rfl, ⟨gc, I, _, _, s3⟩, H3⟩
    · have hc2 : Chg (fun k => k = p) (w.setCell ⟨p, 4, none⟩ (.int .i64 ((ops : Int) + 1))) ((w.setCell ⟨p, 4, none⟩ (.int .i64 ((ops : Int) + 1))).setCell ⟨p, 5, none⟩ (.int .i64 ((arm : Int) - 1))) := (Chg.refl _ _).setCell _ _ (.inl rfl)
      have hai : (((arm - 1 : Nat)) : Int) = (arm : Int) - 1 := by omega
      have s2 : Hid (Sto ((w.setCell ⟨p, 4, none⟩ (.int .i64 ((ops : Int) + 1))).setCell ⟨p, 5, none⟩ (.int .i64 ((arm : Int) - 1))) p gc F I ⟨sz, V, W, true, ops + 1, arm - 1, kp⟩ vf vk) :=
        s1.put (up' := true) (ops' := ops + 1) (arm' := arm - 1) (kp' := kp) hc2 (by have := s1.blk_set 5 (.int .i64 ((arm : Int) - 1)); rw [hai]; simpa using this) (s1.kep.chg hc2 hkI) (by simp only; omega) (by omega)
      have e1 : (⟨sz, V, W, true, ops, arm, kp⟩ : Mod).fails = false := by simp [Mod.fails]; omega
      have e2 := (began_ok _ e1).1
      rw [e1, e2]
      have H1 : Hid (Chg F w ((w.setCell ⟨p, 4, none⟩ (.int .i64 ((ops : Int) + 1))).setCell ⟨p, 5, none⟩ (.int .i64 ((arm : Int) - 1)))) := ((Chg.refl F w).setCell _ _ (.inl hfp)).setCell _ _ (.inl hfp)
      have ha1 : ¬ ((arm : Int) = 0) := by omega
      have ha2 : (2 : Int) ≤ arm := by omega
      have ha3 : (arm : Int) ≤ 9223372036854775807 := by omega
      clear s1 hc1 hc2 H e1 e2 hai
      go_enter Try.func58, Try.ntmps58
      go_wp2
      go_ret
      exact ⟨rfl, ⟨gc, I, vf, vk, s2.out⟩, H1.out⟩

end Go.Proofs.Yteehphmedmplkaa.st
