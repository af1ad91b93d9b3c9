/- The contract of first: what the chapter's examples fix. -/
import Derived.Test.YtjmdjadnllakpaaWrite
namespace Go.Proofs.Ytjmdjadnllakpaa.st
open Go.ChangeShapes Go.WideShapes Go.ChangeAt Go.RowKit Go.Proofs.Ytjmdjadnllakpaa.hp Go.Proofs.Ytjmdjadnllakpaa.md
set_option linter.unusedVariables false

theorem lies_new {w : World} (zs : List Value) (t : TypeId) : Lies (fun k => k = w.heap.size) (w.alloc (.cells zs.toArray t)) (.slice (some ⟨w.heap.size, 0, none⟩) zs.length zs.length) zs :=
  lies_block (heap_alloc_new w _) _

/-- What the examples' stores hold behind the write. -/
def ex1 (v : Value) : Mod := Mod.put (Mod.new 2 1).began (0, v, [7])

theorem ex1_up (v : Value) : (ex1 v).up = true := rfl
theorem ex1_lost (v : Value) : (((ex1 v).crash []).now.getD 0 dC).2 = [0] := rfl
theorem ex1_kept (v : Value) : (((ex1 v).crash [true]).now.getD 0 dC).2 = [7] := rfl

theorem ex1_ops (v : Value) : (ex1 v).ops ≤ 1000000000 := by show 1 ≤ 1000000000; omega
theorem ex1_len (v : Value) (k : List Bool) : 0 < ((ex1 v).crash k).V.length := by simp [Mod.crash, redo_length]; show 0 < 2; omega

set_option maxHeartbeats 2000000 in
theorem first_any (w : World) : Calls Try.prog 8 #[] w fun e w' => e = .returned (.bool true) ∧ Chg no w w' := by
  go_enter Try.func8, Try.ntmps8
  go_wp2_with fail
  refine (new_in 2 1 (by omega) (by omega) (by omega) (by omega)).mono ?_
  rintro e w1 ⟨p, rfl, s1, k1⟩
  go_wp2_with fail
  refine (new_in 2 1 (by omega) (by omega) (by omega) (by omega)).mono ?_
  rintro e w2 ⟨q, rfl, t2, k2⟩
  have s2 := s1.same k2
  go_wp2_with fail
  have k3 : Chg no w2 (w2.alloc (.cells #[.int .u8 7] 5)) := (Chg.refl no w2).alloc _
  have s3 := s2.same k3
  have t3 := t2.same k3
  refine (write_ok (J := fun k => k = w2.heap.size) s3 (by decide) (by decide) rfl 0 (by decide) (.slice (some ⟨w2.heap.size, 0, none⟩) 1 1) [7] rfl (lies_new [.int .u8 7] 5) (fun k hk => by have := s2.lt k; subst hk; simp; omega)).mono ?_
  rintro e w4 ⟨v4, rfl, s4, k4⟩
  have z3 : (w2.alloc (.cells #[.int .u8 7] 5)).heap.size = w2.heap.size + 1 := by simp
  have z1 := k1.size
  have z2 := k2.size
  have z4 := k4.size
  have t4 := t3.chg k4 (fun k h1 h2 => by omega)
  change St w4 p _ (ex1 v4) at s4
  go_wp2_with fail
  have k5 : Chg no w4 (w4.alloc (.cells #[.int .u8 7] 5)) := (Chg.refl no w4).alloc _
  have z5 : (w4.alloc (.cells #[.int .u8 7] 5)).heap.size = w4.heap.size + 1 := by simp
  have s5 := s4.same k5
  have t5 := t4.same k5
  refine (write_ok (J := fun k => k = w4.heap.size) t5 (by decide) (by decide) rfl 0 (by decide) (.slice (some ⟨w4.heap.size, 0, none⟩) 1 1) [7] rfl (lies_new [.int .u8 7] 5) (fun k hk => by subst hk; simp; omega)).mono ?_
  rintro e w6 ⟨v6, rfl, t6, k6⟩
  have z6 := k6.size
  have s6 := s5.chg k6 (fun k h1 h2 => by rcases h1 with h1 | h1 <;> omega)
  change St w6 q _ (ex1 v6) at t6
  go_wp2_with fail
  refine (crash_any (J := no) s6 rfl (ex1_ops _) (.slice none 0 0) [] (.inl ⟨rfl, rfl⟩) (by decide) (fun _ h => h.elim)).mono ?_
  rintro e w7 ⟨rfl, s7, k7⟩
  have z7 := k7.size
  have t7 := t6.chg k7 (fun k h1 h2 => by rcases h1 with h1 | h1 <;> rcases h2 with h2 | h2 <;> omega)
  go_wp2_with fail
  have k8 : Chg no w7 (w7.alloc (.cells #[.bool true] 4)) := (Chg.refl no w7).alloc _
  have z8 : (w7.alloc (.cells #[.bool true] 4)).heap.size = w7.heap.size + 1 := by simp
  have s8 := s7.same k8
  have t8 := t7.same k8
  refine (crash_any (J := fun k => k = w7.heap.size) t8 rfl (ex1_ops _) (.slice (some ⟨w7.heap.size, 0, none⟩) 1 1) [true] (lies_new [.bool true] 4) (by decide) (fun k hk h2 => by subst hk; rcases h2 with h2 | h2 <;> omega)).mono ?_
  rintro e w9 ⟨rfl, t9, k9⟩
  have z9 := k9.size
  have s9 := s8.chg k9 (fun k h1 h2 => by rcases h1 with h1 | h1 <;> rcases h2 with h2 | h2 <;> omega)
  go_wp2_with fail
  refine (peek_in s9 0 (ex1_len _ _)).mono ?_
  rw [ex1_lost]
  rintro e wa ⟨rfl, ga, ka⟩
  have La := lies_block ga 1
  have ta := t9.same ka
  have sa := s9.same ka
  have za := ka.size
  have zg := lt_of_block ga
  go_wp2_with fail
  have kb : Chg no wa (wa.alloc (.cells #[.int .u8 0] 5)) := (Chg.refl no wa).alloc _
  refine (bytes_same (zs := [0]) (La.chg kb (fun _ _ h => h)) (lies_new [.int .u8 0] 5)).mono ?_
  rintro e wb ⟨rfl, rfl⟩
  go_wp2_with fail
  refine (peek_in (ta.same kb) 0 (ex1_len _ _)).mono ?_
  rw [ex1_kept]
  rintro e wc ⟨rfl, gc, kc⟩
  have Lc := lies_block (g := wa.heap.size + 1) (by simpa using gc) 1
  go_wp2_with fail
  have kd : Chg no wc (wc.alloc (.cells #[.int .u8 7] 5)) := (Chg.refl no wc).alloc _
  refine (bytes_same (zs := [7]) (Lc.chg kd (fun _ _ h => h)) (lies_new [.int .u8 7] 5)).mono ?_
  rintro e wd ⟨rfl, rfl⟩
  go_wp2_with fail
  refine (up_any (((sa.same kb).same kc).same kd)).mono ?_
  rintro e we ⟨rfl, rfl⟩
  go_wp2
  go_ret
  refine ⟨rfl, ?_⟩
  have c2 := (k1.then k2).then k3
  have c5 := (c2.trans k4 (fun k hk => .inr (by omega))).then k5
  have c6 := c5.trans k6 (fun k hk => .inr (by omega))
  have c8 := (c6.trans k7 (fun k hk => .inr (by rcases hk with hk | hk <;> omega))).then k8
  have c9 := c8.trans k9 (fun k hk => .inr (by rcases hk with hk | hk <;> omega))
  exact (((c9.then ka).then kb).then kc).then kd

end Go.Proofs.Ytjmdjadnllakpaa.st
