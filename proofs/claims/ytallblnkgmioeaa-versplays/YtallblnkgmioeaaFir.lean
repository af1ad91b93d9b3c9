/- What the chapter's example fixes: the laws' first. -/
import Derived.Test.YtallblnkgmioeaaWay
namespace Go.Proofs.Ytallblnkgmioeaa.st
open Go.ChangeShapes Go.WideShapes Go.ChangeAt Go.RowKit Go.Proofs.Ytallblnkgmioeaa.hp Go.Proofs.Ytallblnkgmioeaa.bt
set_option linter.unusedVariables false
set_option linter.unusedSimpArgs false
variable {Bt : (Nat → Prop) → World → Value → List Int → Prop}

/-- An object in memory that is new since w; nothing old was written. -/
def Nob (Bt : (Nat → Prop) → World → Value → List Int → Prop) (w w' : World) (v : Value) (x : List Int) : Prop := ∃ F, Bt F w' v x ∧ (∀ k, F k → w.heap.size ≤ k) ∧ Chg no w w'

theorem Nob.later (V : Ways Bt) {w w1 w2 : World} {v : Value} {x : List Int} (h : Nob Bt w w1 v x) (k : Chg no w1 w2) : Nob Bt w w2 v x := by
  obtain ⟨F, a, b, c⟩ := h
  exact ⟨F, V.keep a k (fun _ _ h => h), b, c.then k⟩

theorem Nob.chg {w w1 : World} {v : Value} {x : List Int} (h : Nob Bt w w1 v x) : Chg no w w1 := by
  obtain ⟨F, a, b, c⟩ := h
  exact c

theorem lies_new1 (w : World) (b : Int) : Lies (fun k => k = w.heap.size) (w.alloc (.cells #[.int .i64 b] 3)) (.slice (some ⟨w.heap.size, 0, none⟩) ([b] : List Int).length 1) (([b] : List Int).map (Value.int .i64)) :=
  .inr ⟨_, 1, rfl, fun _ => rfl, fun j u hu => news_at (w := w) (xs := [.int .i64 b]) (t := 3) j u hu⟩

/-- One bit turned, as a literal's argument. -/
theorem flip_one (V : Ways Bt) {w0 w : World} {v : Value} {x : List Int} (b : Int) (h : Nob Bt w0 w v x) : Calls Try.prog 13 #[v, .slice (some ⟨w.heap.size, 0, none⟩) 1 1] (w.alloc (.cells #[.int .i64 b] 3)) fun e w' => e = .returned (.bool (okF x.length [b])) ∧ Nob Bt w0 w' v (flipI x [b]).1 := by
  obtain ⟨F, a, hF, c⟩ := h
  have hlow := (V.facts a).2.2.2.2
  have a' := V.keep a ((Chg.refl no w).alloc (.cells #[.int .i64 b] 3)) (fun _ _ h => h)
  refine (V.flip a' (lies_new1 w b) (fun k hk hf => by have := hlow k hf; omega) (by simp) (by simp)).mono ?_
  rintro e w' ⟨rfl, q1, q2⟩
  exact ⟨rfl, ⟨F, q1, hF, (c.alloc _).trans q2 (fun k hk => .inr (hF k hk))⟩⟩

theorem live_of (V : Ways Bt) {w0 w : World} {v : Value} {x : List Int} (b : Int) (h : Nob Bt w0 w v x) : Calls Try.prog 22 #[v, .int .i64 b] w fun e w' => e = .returned (.int .i64 (liveI x b)) ∧ ∃ n, w' = w.drewN n := by
  obtain ⟨F, a, hF, c⟩ := h
  exact V.live b a

theorem bytes_of' (V : Ways Bt) {w0 w : World} {v : Value} {x : List Int} (h : Nob Bt w0 w v x) : Calls Try.prog 18 #[v] w fun e w' => ∃ v', e = .returned v' ∧ NewB w (bytesOf x) v' w' := by
  obtain ⟨F, a, hF, c⟩ := h
  exact V.bytes a

theorem Nob.ptr (V : Ways Bt) {w0 w : World} {v : Value} {x : List Int} (h : Nob Bt w0 w v x) : ∃ p, v = .pointer (some p) := by
  obtain ⟨F, a, hF, c⟩ := h
  exact (V.facts a).2.2.2.1

theorem Nob.bin (V : Ways Bt) {w0 w : World} {v : Value} {x : List Int} (h : Nob Bt w0 w v x) : Bin x ∧ x.length ≤ 127 := by
  obtain ⟨F, a, hF, c⟩ := h
  exact ⟨(V.facts a).1, (V.facts a).2.2.1⟩

set_option maxRecDepth 100000 in
set_option maxHeartbeats 4000000 in
theorem first_any (V : Ways Bt) (w : World) : Calls Try.prog 8 #[] w fun e w' => e = .returned (.bool true) ∧ Chg no w w' := by
  have H1 : Hid (Calls Try.prog 9 #[.int .i64 3] w fun e w' => ∃ p, e = .returned (.pointer (some p)) ∧ Nob Bt w w' (.pointer (some p)) [0, 0, 0]) := by
    refine (V.new1 w 3 rfl).mono ?_
    rintro e w' ⟨p, F, rfl, a, b, c⟩
    exact ⟨p, rfl, F, a, b, c⟩
  have H2 : Hid (∀ p W, Nob Bt w W (.pointer (some p)) [0, 0, 0] → Calls Try.prog 13 #[.pointer (some p), .slice (some ⟨W.heap.size, 0, none⟩) 1 1] (W.alloc (.cells #[.int .i64 2] 3)) fun e w' => e = .returned (.bool true) ∧ Nob Bt w w' (.pointer (some p)) [0, 0, 1]) := fun p W h => flip_one V 2 h
  have H3 : Hid (∀ p W, Nob Bt w W (.pointer (some p)) [0, 0, 1] → Calls Try.prog 18 #[.pointer (some p)] W fun e w' => ∃ v', e = .returned v' ∧ NewB W [4] v' w') := fun p W h => bytes_of' V h
  have H4 : Hid (∀ p W, Nob Bt w W (.pointer (some p)) [0, 0, 1] → Calls Try.prog 22 #[.pointer (some p), .int .i64 2] W fun e w' => e = .returned (.int .i64 1) ∧ ∃ n, w' = W.drewN n) := fun p W h => live_of V 2 h
  have H5 : Hid (∀ p W, Nob Bt w W (.pointer (some p)) [0, 0, 1] → Calls Try.prog 22 #[.pointer (some p), .int .i64 3] W fun e w' => e = .returned (.int .i64 (-1)) ∧ ∃ n, w' = W.drewN n) := fun p W h => live_of V 3 h
  have H6 : Hid (∀ W, Calls Try.prog 9 #[.int .i64 0] W fun e w' => e = .returned (.pointer none) ∧ Chg no W w') := fun W => V.new0 W 0 rfl
  go_enter Try.func8, Try.ntmps8
  go_wp2_with fail
  refine H1.out.mono ?_
  rintro e w1 ⟨p, rfl, N1⟩
  have HF2 := H2.out p w1 N1
  clear H1 H2 N1
  go_wp2_with fail
  refine HF2.mono ?_
  rintro e w2 ⟨rfl, N2⟩
  have HN2 : Hid (Nob Bt w w2 (.pointer (some p)) [0, 0, 1]) := N2
  have HF3 := H3.out p w2 N2
  clear HF2 N2 H3
  go_wp2_with fail
  refine HF3.mono ?_
  rintro e w3 ⟨v3, rfl, N3⟩
  have HN3 : Hid (Nob Bt w w3 (.pointer (some p)) [0, 0, 1]) := HN2.out.later V N3.2
  obtain ⟨a3, m3, c3, rfl⟩ : ∃ a m c, v3 = .slice a m c := by
    obtain ⟨a, c, e⟩ := N3.shape
    exact ⟨_, _, _, e⟩
  have k4 : Chg no w3 (w3.alloc (.cells #[.int .u8 4] 5)) := (Chg.refl no w3).alloc _
  have HB := bytes_any ((NewB.chg N3 k4).lies) (K := fun _ => True) (b := some ⟨w3.heap.size, 0, none⟩) (len' := 1) (cap' := 1) (ys := [4]) (.inr ⟨_, 1, rfl, fun _ => trivial, fun j u hu => news_at (w := w3) (xs := [.int .u8 4]) (t := 5) j u hu⟩) (fun x hx => by simp at hx; omega) (fun x hx => by simp at hx; omega)
  have e4 : decide (([4] : List Int) = [4]) = true := by decide
  rw [e4] at HB
  have HN4 : Hid (Nob Bt w (w3.alloc (.cells #[.int .u8 4] 5)) (.pointer (some p)) [0, 0, 1]) := HN3.out.later V k4
  clear HF3 N3 HN2 HN3 k4
  go_wp2_with fail
  refine HB.mono ?_
  rintro e w5 ⟨rfl, hw5⟩
  subst hw5
  have HF4 := H4.out p _ HN4.out
  clear HB
  go_wp2_with fail
  refine HF4.mono ?_
  rintro e w6 ⟨rfl, n6, hw6⟩
  have HN6 : Hid (Nob Bt w w6 (.pointer (some p)) [0, 0, 1]) := by
    show Nob _ _ _ _ _
    rw [hw6]
    exact HN4.out.later V ((Chg.refl no _).drewN n6)
  have HF5 := H5.out p w6 HN6.out
  clear HF4 hw6 HN4
  go_wp2_with fail
  refine HF5.mono ?_
  rintro e w7 ⟨rfl, n7, hw7⟩
  have HN7 : Hid (Nob Bt w w7 (.pointer (some p)) [0, 0, 1]) := by
    show Nob _ _ _ _ _
    rw [hw7]
    exact HN6.out.later V ((Chg.refl no _).drewN n7)
  have HF6 := H6.out w7
  clear HF5 hw7 HN6
  go_wp2_with fail
  refine HF6.mono ?_
  rintro e w8 ⟨rfl, k8⟩
  go_wp2
  go_ret
  exact ⟨rfl, (HN7.out.chg).then k8⟩

end Go.Proofs.Ytallblnkgmioeaa.st
