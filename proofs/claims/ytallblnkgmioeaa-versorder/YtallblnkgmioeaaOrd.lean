/- The law VersOrder, walked. -/
import Derived.Test.YtallblnkgmioeaaTri
import Derived.Below
namespace Go.Proofs.Ytallblnkgmioeaa.order
open Go.ChangeShapes Go.WideShapes Go.ChangeAt Go.RowKit Go.Proofs.Ytallblnkgmioeaa.hp Go.Proofs.Ytallblnkgmioeaa.bt Go.Proofs.Ytallblnkgmioeaa.st
set_option linter.unusedVariables false
set_option linter.unusedSimpArgs false
variable {Bt : (Nat → Prop) → World → Value → List Int → Prop}

set_option maxRecDepth 100000 in
set_option maxHeartbeats 2000000 in
theorem many1 (V : Ways Bt) (w : World) (n cut : Int) (a : Option Addr) (l c : Nat) (hh : 200 < l) :
    Calls Try.prog 6 #[.int .i64 n, .slice a l c, .int .i64 cut] w fun e w' => e = .returned (.bool true) ∧ Below w.heap.size w w' := by
  have hi : (200 : Int) < l := by omega
  go_enter Try.func6, Try.ntmps6
  go_wp2_with fail
  refine (first_any V _).mono ?_
  rintro e w1 ⟨rfl, k1⟩
  go_wp2_with fail
  refine (first_any V _).mono ?_
  rintro e w3 ⟨rfl, k3⟩
  go_wp2
  go_ret
  exact ⟨rfl, (k1.then k3).below⟩

set_option maxRecDepth 100000 in
set_option maxHeartbeats 2000000 in
theorem many2 (V : Ways Bt) (w : World) (n cut : Int) (a : Option Addr) (l c : Nat) (hh : l ≤ 200) (hc : cut < 0) :
    Calls Try.prog 6 #[.int .i64 n, .slice a l c, .int .i64 cut] w fun e w' => e = .returned (.bool true) ∧ Below w.heap.size w w' := by
  have hi : ¬ (200 : Int) < l := by omega
  go_enter Try.func6, Try.ntmps6
  go_wp2_with fail
  refine (first_any V _).mono ?_
  rintro e w1 ⟨rfl, k1⟩
  go_wp2_with fail
  refine (first_any V _).mono ?_
  rintro e w3 ⟨rfl, k3⟩
  go_wp2
  go_ret
  exact ⟨rfl, (k1.then k3).below⟩

set_option maxRecDepth 100000 in
set_option maxHeartbeats 2000000 in
theorem many3 (V : Ways Bt) (w : World) (n cut : Int) (a : Option Addr) (l c : Nat) (hh : l ≤ 200) (hc : (l : Int) < cut) :
    Calls Try.prog 6 #[.int .i64 n, .slice a l c, .int .i64 cut] w fun e w' => e = .returned (.bool true) ∧ Below w.heap.size w w' := by
  have hi : ¬ (200 : Int) < l := by omega
  have hc0 : ¬ cut < 0 := by omega
  go_enter Try.func6, Try.ntmps6
  go_wp2_with fail
  refine (first_any V _).mono ?_
  rintro e w1 ⟨rfl, k1⟩
  go_wp2_with fail
  refine (first_any V _).mono ?_
  rintro e w3 ⟨rfl, k3⟩
  go_wp2
  go_ret
  exact ⟨rfl, (k1.then k3).below⟩

set_option maxRecDepth 100000 in
set_option maxHeartbeats 2000000 in
theorem many4 (V : Ways Bt) (w : World) (n : Int) (cut : Nat) (a : Option Addr) (c : Nat) (l : List Int) (A : Lies (Old w) w (.slice a l.length c) (l.map (Value.int .i64))) (hca : l.length ≤ c) (hh : l.length ≤ 200) (hc : cut ≤ l.length) (hd : ¬ l.Nodup) :
    Calls Try.prog 6 #[.int .i64 n, .slice a l.length c, .int .i64 cut] w fun e w' => e = .returned (.bool true) ∧ Below w.heap.size w w' := by
  have HT : Hid (∀ W, Chg no w W → Calls Try.prog 24 #[.slice a l.length c] W fun e w' => e = .returned (.bool true) ∧ Chg no W w') := fun W k => by
    have := twice_any W a c l (A.chg k (fun _ _ h => h)) hca (by omega)
    rw [decide_eq_false hd] at this
    exact this
  obtain ⟨m, hm⟩ : ∃ m, l.length = m := ⟨_, rfl⟩
  simp only [hm] at HT hh hc ⊢
  have hi : ¬ (200 : Int) < m := by omega
  have hc0 : ¬ (cut : Int) < 0 := by omega
  have hc1 : ¬ (m : Int) < cut := by omega
  clear hm A hca hd
  go_enter Try.func6, Try.ntmps6
  go_wp2_with fail
  refine (first_any V _).mono ?_
  rintro e w1 ⟨rfl, k1⟩
  have HT1 := HT.out w1 k1
  go_wp2_with fail
  refine HT1.mono ?_
  rintro e w2 ⟨rfl, k2⟩
  go_wp2_with fail
  refine (first_any V _).mono ?_
  rintro e w3 ⟨rfl, k3⟩
  go_wp2
  go_ret
  exact ⟨rfl, ((k1.then k2).then k3).below⟩

set_option maxRecDepth 100000 in
set_option maxHeartbeats 2000000 in
theorem none1 (V : Ways Bt) (w : World) (n : Int) (cut : Nat) (a : Option Addr) (c : Nat) (l : List Int) (A : Lies (Old w) w (.slice a l.length c) (l.map (Value.int .i64))) (hca : l.length ≤ c) (hh : l.length ≤ 200) (hc : cut ≤ l.length) (hd : l.Nodup) (hmn : mayN n = false) :
    Calls Try.prog 6 #[.int .i64 n, .slice a l.length c, .int .i64 cut] w fun e w' => e = .returned (.bool true) ∧ Below w.heap.size w w' := by
  have HT : Hid (∀ W, Chg no w W → Calls Try.prog 24 #[.slice a l.length c] W fun e w' => e = .returned (.bool false) ∧ Chg no W w') := fun W k => by
    have := twice_any W a c l (A.chg k (fun _ _ h => h)) hca (by omega)
    rw [decide_eq_true hd] at this
    exact this
  have HN := fun W => V.new0 W n hmn
  obtain ⟨m, hm⟩ : ∃ m, l.length = m := ⟨_, rfl⟩
  simp only [hm] at HT hh hc ⊢
  have hi : ¬ (200 : Int) < m := by omega
  have hc0 : ¬ (cut : Int) < 0 := by omega
  have hc1 : ¬ (m : Int) < cut := by omega
  clear hm A hca hd hmn
  go_enter Try.func6, Try.ntmps6
  go_wp2_with fail
  refine (first_any V _).mono ?_
  rintro e w1 ⟨rfl, k1⟩
  have HT1 := HT.out w1 k1
  go_wp2_with fail
  refine HT1.mono ?_
  rintro e w2 ⟨rfl, k2⟩
  go_wp2_with fail
  refine (HN _).mono ?_
  rintro e w3 ⟨rfl, k3⟩
  go_wp2_with fail
  refine (HN _).mono ?_
  rintro e w4 ⟨rfl, k4⟩
  go_wp2_with fail
  refine (HN _).mono ?_
  rintro e w5 ⟨rfl, k5⟩
  go_wp2_with fail
  refine (first_any V _).mono ?_
  rintro e w6 ⟨rfl, k6⟩
  go_wp2
  go_ret
  exact ⟨rfl, (((((k1.then k2).then k3).then k4).then k5).then k6).below⟩

end Go.Proofs.Ytallblnkgmioeaa.order
