/- Contracts of the recorder's Read, Write, Sync. -/
import Derived.Test.YteehphmedmplkaaRecS
namespace Go.Proofs.Yteehphmedmplkaa.st
open Go.ChangeShapes Go.WideShapes Go.ChangeAt Go.RowKit Go.Proofs.Yteehphmedmplkaa.hp Go.Proofs.Yteehphmedmplkaa.md
set_option linter.unusedVariables false

theorem Rc.wid {w w1 : World} {r p : Nat} {F : Nat → Prop} {m : Mod} {T : List Rec} {w2 : World} (h : Rc w2 r p (Wid F w w1) m T) (k2 : Chg no w1 w2) (z1 : w.heap.size ≤ w1.heap.size) : Rc w2 r p (Wid F w w2) m T := by
  have hl := h.lt
  have z2 := k2.size
  refine h.wide ?_ ?_
  · intro k hk
    rcases hk with hk | hk
    · exact .inl hk
    · exact .inr ⟨by omega, by omega⟩
  · intro k hk
    rcases hk with hk | hk
    · exact hl k (.inl hk)
    · exact hk.2

theorem Rc.wid2 {w w1 w2 : World} {r p : Nat} {F : Nat → Prop} {m : Mod} {T : List Rec} (h : Rc w2 r p (Wid (Wid F w w1) w1 w2) m T) (z1 : w.heap.size ≤ w1.heap.size) (z2 : w1.heap.size ≤ w2.heap.size) : Rc w2 r p (Wid F w w2) m T := by
  have hl := h.lt
  refine h.wide ?_ ?_
  · intro k hk
    rcases hk with (hk | hk) | hk
    · exact .inl hk
    · exact .inr ⟨by omega, by omega⟩
    · exact .inr ⟨by omega, by omega⟩
  · intro k hk
    rcases hk with hk | hk
    · exact hl k (.inl (.inl hk))
    · exact hk.2

theorem chg_wid {w w1 w2 : World} {F : Nat → Prop} (c1 : Chg F w w1) (c2 : Chg (Wid F w w1) w1 w2) : Chg F w w2 :=
  c1.trans c2 fun k hk => by rcases hk with hk | hk; exact .inl hk; exact .inr hk.1

section
variable {w : World} {r p : Nat} {F : Nat → Prop} {m : Mod} {T : List Rec}

theorem tread_fail (H : Rc w r p F m T) (hops : m.ops ≤ 100000000) (hkp : m.kp.length ≤ 100000000000) (hf : m.fails = true) (a : Int) :
    Calls Try.prog 12 #[.pointer (some ⟨r, 0, none⟩), .int .i64 a] w fun e w' => e = .returned (.tuple #[.slice none 0 0, .int .i64 6]) ∧ Rc w' r p (Wid F w w') m.began T ∧ Chg F w w' := by
  obtain ⟨S, s, hS, hstep⟩ := H.step
  have c0 := H.ptr
  have HR := read_fail s hops hkp hf a
  clear H s hf
  go_enter Try.func12, Try.ntmps12
  go_wp2_with fail
  refine HR.mono ?_
  rintro e w1 ⟨rfl, s1, k1⟩
  obtain ⟨t1, c1⟩ := hstep _ _ _ s1 k1 (fun k hk => .inl hk)
  go_wp2_with fail
  refine (record_err 6 (by omega) 1 a none 0 0).mono ?_
  rintro e w2 ⟨rfl, k2⟩
  go_wp2
  go_ret2
  exact ⟨rfl, (t1.same k2).wid k2 c1.size, c1.then (k2.of_no F)⟩

theorem tread_out (H : Rc w r p F m T) (hops : m.ops ≤ 100000000) (hkp : m.kp.length ≤ 100000000000) (hf : m.fails = false) (a : Int) (ha : ¬ (0 ≤ a ∧ a < m.V.length)) :
    Calls Try.prog 12 #[.pointer (some ⟨r, 0, none⟩), .int .i64 a] w fun e w' => e = .returned (.tuple #[.slice none 0 0, .int .i64 1]) ∧ Rc w' r p (Wid F w w') m.began T ∧ Chg F w w' := by
  obtain ⟨S, s, hS, hstep⟩ := H.step
  have c0 := H.ptr
  have HR := read_out s hops hkp hf a ha
  clear H s hf ha
  go_enter Try.func12, Try.ntmps12
  go_wp2_with fail
  refine HR.mono ?_
  rintro e w1 ⟨rfl, s1, k1⟩
  obtain ⟨t1, c1⟩ := hstep _ _ _ s1 k1 (fun k hk => .inl hk)
  go_wp2_with fail
  refine (record_err 1 (by omega) 1 a none 0 0).mono ?_
  rintro e w2 ⟨rfl, k2⟩
  go_wp2
  go_ret2
  exact ⟨rfl, (t1.same k2).wid k2 c1.size, c1.then (k2.of_no F)⟩

theorem now_len {w : World} {p : Nat} {S : Nat → Prop} {m : Mod} (s : St w p S m) (a : Nat) (ha : a < m.V.length) : (m.now.getD a dC).2.length = m.sz ∧ m.sz ≤ 4096 := by
  obtain ⟨gc, I, vf, vk, h⟩ := s
  exact ⟨(h.now_byt a ha).1, h.num.2.1⟩

theorem tread_in (H : Rc w r p F m T) (hops : m.ops ≤ 100000000) (hkp : m.kp.length ≤ 100000000000) (hf : m.fails = false) (ht : T.length ≤ 100000000) (a : Nat) (ha : a < m.V.length) :
    Calls Try.prog 12 #[.pointer (some ⟨r, 0, none⟩), .int .i64 a] w fun e w' => ∃ g v', e = .returned (.tuple #[.slice (some ⟨g, 0, none⟩) m.sz m.sz, .int .i64 0]) ∧ w.heap.size ≤ g ∧
      w'.heap[g]? = some (.cells ((m.now.getD a dC).2.map (Value.int .u8)).toArray 5 (0, 0)) ∧ Rc w' r p (Wid F w w') m.began (T ++ [⟨1, a, v', (m.now.getD a dC).2⟩]) ∧ Chg F w w' := by
  obtain ⟨S, s, hS, hstep⟩ := H.keep
  have hlt := H.lt
  have c0 := H.ptr
  obtain ⟨hz1, hz2⟩ := now_len s a ha
  have HR := read_in s hops hkp hf a ha
  obtain ⟨BS, hBS⟩ : ∃ BS, (m.now.getD a dC).2 = BS := ⟨_, rfl⟩
  rw [hBS] at HR hz1 ⊢
  clear H s hf ha hBS
  go_enter Try.func12, Try.ntmps12
  go_wp2_with fail
  refine HR.mono ?_
  rintro e w1 ⟨g, rfl, hg, g1, s1, k1⟩
  obtain ⟨t1, c1⟩ := hstep _ _ s1 k1
  have L1 := lies_block g1 m.sz
  simp only [List.length_map] at L1
  have hgl := lt_of_block g1
  go_wp2_with fail
  refine (record_ok t1 ht 1 a (.slice (some ⟨g, 0, none⟩) m.sz m.sz) BS (by rw [hz1] at L1; exact L1) (by omega) (fun k hk => by omega)).mono ?_
  rintro e w2 ⟨rfl, ⟨v', t2⟩, k2⟩
  go_wp2
  go_ret2
  have z1 := c1.size
  refine ⟨g, v', rfl, hg, k2.heap g1 (fun e => by have := hlt g e; omega), t2.wide ?_ (wid_lt hlt (Nat.le_trans z1 k2.size)), c1.then k2⟩
  intro k hk
  rcases hk with hk | hk
  · exact .inl hk
  · exact .inr ⟨by omega, hk.2⟩

theorem tsync_fail (H : Rc w r p F m T) (hops : m.ops ≤ 100000000) (hkp : m.kp.length ≤ 100000000000) (hf : m.fails = true) :
    Calls Try.prog 17 #[.pointer (some ⟨r, 0, none⟩)] w fun e w' => e = .returned (.int .i64 6) ∧ Rc w' r p (Wid F w w') m.began T ∧ Chg F w w' := by
  obtain ⟨S, s, hS, hstep⟩ := H.step
  have c0 := H.ptr
  have HR := sync_fail s hops hkp hf
  clear H s hf
  go_enter Try.func17, Try.ntmps17
  go_wp2_with fail
  refine HR.mono ?_
  rintro e w1 ⟨rfl, s1, k1⟩
  obtain ⟨t1, c1⟩ := hstep _ _ _ s1 k1 (fun k hk => .inl hk)
  go_wp2_with fail
  refine (record_err 6 (by omega) 3 0 none 0 0).mono ?_
  rintro e w2 ⟨rfl, k2⟩
  go_wp2
  go_ret
  exact ⟨rfl, (t1.same k2).wid k2 c1.size, c1.then (k2.of_no F)⟩

theorem tsync_ok (H : Rc w r p F m T) (hops : m.ops ≤ 100000000) (hkp : m.kp.length ≤ 100000000000) (hf : m.fails = false) (ht : T.length ≤ 100000000) :
    Calls Try.prog 17 #[.pointer (some ⟨r, 0, none⟩)] w fun e w' => ∃ v', e = .returned (.int .i64 0) ∧ Rc w' r p (Wid F w w') m.began.sync (T ++ [⟨3, 0, v', []⟩]) ∧ Chg F w w' := by
  obtain ⟨S, s, hS, hstep⟩ := H.step
  have c0 := H.ptr
  have HR := sync_ok s hops hkp hf
  clear H s hf
  go_enter Try.func17, Try.ntmps17
  go_wp2_with fail
  refine HR.mono ?_
  rintro e w1 ⟨rfl, s1, k1⟩
  obtain ⟨t1, c1⟩ := hstep _ _ _ s1 k1 (fun k hk => .inl hk)
  go_wp2_with fail
  refine (record_ok (J := no) t1 ht 3 0 (.slice none 0 0) [] (.inl ⟨rfl, rfl⟩) (by simp) (fun k hk => hk.elim)).mono ?_
  rintro e w2 ⟨rfl, ⟨v', t2⟩, k2⟩
  go_wp2
  go_ret
  exact ⟨v', rfl, t2.wid2 c1.size k2.size, chg_wid c1 k2⟩

theorem twrite_fail (H : Rc w r p F m T) (hops : m.ops ≤ 100000000) (hkp : m.kp.length ≤ 100000000000) (hf : m.fails = true) (a : Int) (b : Option Addr) (l c : Nat) :
    Calls Try.prog 15 #[.pointer (some ⟨r, 0, none⟩), .int .i64 a, .slice b l c] w fun e w' => e = .returned (.int .i64 6) ∧ Rc w' r p (Wid F w w') m.began T ∧ Chg F w w' := by
  obtain ⟨S, s, hS, hstep⟩ := H.step
  have c0 := H.ptr
  have HR := write_fail s hops hkp hf a b l c
  clear H s hf
  go_enter Try.func15, Try.ntmps15
  go_wp2_with fail
  refine HR.mono ?_
  rintro e w1 ⟨rfl, s1, k1⟩
  obtain ⟨t1, c1⟩ := hstep _ _ _ s1 k1 (fun k hk => .inl hk)
  go_wp2_with fail
  refine (record_err 6 (by omega) 2 a b l c).mono ?_
  rintro e w2 ⟨rfl, k2⟩
  go_wp2
  go_ret
  exact ⟨rfl, (t1.same k2).wid k2 c1.size, c1.then (k2.of_no F)⟩

theorem twrite_out (H : Rc w r p F m T) (hops : m.ops ≤ 100000000) (hkp : m.kp.length ≤ 100000000000) (hf : m.fails = false) (a : Int) (ha : ¬ (0 ≤ a ∧ a < m.V.length)) (b : Option Addr) (l c : Nat) :
    Calls Try.prog 15 #[.pointer (some ⟨r, 0, none⟩), .int .i64 a, .slice b l c] w fun e w' => e = .returned (.int .i64 1) ∧ Rc w' r p (Wid F w w') m.began T ∧ Chg F w w' := by
  obtain ⟨S, s, hS, hstep⟩ := H.step
  have c0 := H.ptr
  have HR := write_out s hops hkp hf a ha b l c
  clear H s hf ha
  go_enter Try.func15, Try.ntmps15
  go_wp2_with fail
  refine HR.mono ?_
  rintro e w1 ⟨rfl, s1, k1⟩
  obtain ⟨t1, c1⟩ := hstep _ _ _ s1 k1 (fun k hk => .inl hk)
  go_wp2_with fail
  refine (record_err 1 (by omega) 2 a b l c).mono ?_
  rintro e w2 ⟨rfl, k2⟩
  go_wp2
  go_ret
  exact ⟨rfl, (t1.same k2).wid k2 c1.size, c1.then (k2.of_no F)⟩

theorem twrite_form (H : Rc w r p F m T) (hops : m.ops ≤ 100000000) (hkp : m.kp.length ≤ 100000000000) (hf : m.fails = false) (a : Int) (ha : 0 ≤ a ∧ a < m.V.length) (b : Option Addr) (l c : Nat) (hl : l ≠ m.sz) :
    Calls Try.prog 15 #[.pointer (some ⟨r, 0, none⟩), .int .i64 a, .slice b l c] w fun e w' => e = .returned (.int .i64 2) ∧ Rc w' r p (Wid F w w') m.began T ∧ Chg F w w' := by
  obtain ⟨S, s, hS, hstep⟩ := H.step
  have c0 := H.ptr
  have HR := write_form s hops hkp hf a ha b l c hl
  clear H s hf ha hl
  go_enter Try.func15, Try.ntmps15
  go_wp2_with fail
  refine HR.mono ?_
  rintro e w1 ⟨rfl, s1, k1⟩
  obtain ⟨t1, c1⟩ := hstep _ _ _ s1 k1 (fun k hk => .inl hk)
  go_wp2_with fail
  refine (record_err 2 (by omega) 2 a b l c).mono ?_
  rintro e w2 ⟨rfl, k2⟩
  go_wp2
  go_ret
  exact ⟨rfl, (t1.same k2).wid k2 c1.size, c1.then (k2.of_no F)⟩

set_option maxHeartbeats 1000000 in
theorem twrite_ok {J : Nat → Prop} (H : Rc w r p F m T) (hops : m.ops ≤ 100000000) (hkp : m.kp.length ≤ 100000000000) (hf : m.fails = false) (ht : T.length ≤ 100000000) (a : Nat) (ha : a < m.V.length) (x : Option Addr) (c : Nat) (zs : List Int) (hz : zs.length = m.sz) (hv : Lies J w (.slice x zs.length c) (zs.map (Value.int .u8))) (hJ : ∀ k, J k → ¬ F k ∧ k < w.heap.size) :
    Calls Try.prog 15 #[.pointer (some ⟨r, 0, none⟩), .int .i64 a, .slice x zs.length c] w fun e w' => ∃ v' v2, e = .returned (.int .i64 0) ∧ Rc w' r p (Wid F w w') (Mod.put m.began (a, v', zs)) (T ++ [⟨2, a, v2, zs⟩]) ∧ Chg F w w' := by
  obtain ⟨S, s, hS, hstep⟩ := H.step
  have c0 := H.ptr
  have hz2 := (now_len s a ha).2
  have HR := write_ok s hops hkp hf a ha _ zs hz hv (fun k hk => ⟨fun e => (hJ k hk).1 (hS k e), (hJ k hk).2⟩)
  have hzl : Hid (zs.length ≤ 100000) := by show zs.length ≤ 100000; omega
  have HV : Hid (∀ w', Chg F w w' → Lies J w' (.slice x zs.length c) (zs.map (Value.int .u8))) := fun w' k => hv.chg k (fun k hk => (hJ k hk).1)
  clear H s hf ha hv hz hz2
  obtain ⟨L, hL⟩ : ∃ L, zs.length = L := ⟨_, rfl⟩
  rw [hL] at HR HV hzl ⊢
  go_enter Try.func15, Try.ntmps15
  go_wp2_with fail
  refine HR.mono ?_
  rintro e w1 ⟨v', rfl, s1, k1⟩
  obtain ⟨t1, c1⟩ := hstep _ _ _ s1 k1 wid_sub
  go_wp2_with fail
  refine (record_ok t1 ht 2 a _ zs (HV.out _ c1) (by rw [hL]; exact hzl.out) (fun k hk => Nat.lt_of_lt_of_le (hJ k hk).2 c1.size)).mono ?_
  rintro e w2 ⟨rfl, ⟨v2, t2⟩, k2⟩
  go_wp2
  go_ret
  exact ⟨v', v2, rfl, t2.wid2 c1.size k2.size, chg_wid c1 k2⟩
end

end Go.Proofs.Yteehphmedmplkaa.st
