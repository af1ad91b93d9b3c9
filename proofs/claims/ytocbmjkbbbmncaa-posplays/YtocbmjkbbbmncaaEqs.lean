/- Places and changes held against each other; contracts of SamePlaces and SameChanges, of lists that are alike. -/
import Derived.Test.YtocbmjkbbbmncaaChn
import Derived.Laws.StructEq
namespace Go.Proofs.Ytocbmjkbbbmncaa.st
open Go.ChangeShapes Go.WideShapes Go.ChangeAt Go.RowKit Go.Proofs.Ytocbmjkbbbmncaa.hp
set_option linter.unusedVariables false

theorem fields39 : (Try.prog.fieldsOf 39).toList = [{ name := "Leaf", type := 3, offset := 0, embedded := false, tag := "", pkgPath := "", byteOffset := 0 }, { name := "Tag", type := 3, offset := 1, embedded := false, tag := "", pkgPath := "", byteOffset := 8 }] := by
  unfold Program.fieldsOf
  rw [Try.underlying39]

theorem held39 : Try.prog.stoodInHeld 39 = false := by kernel_rfl
theorem guard39 : Try.prog.eqGuardType Try.prog.depth 39 = false := by kernel_rfl

theorem under39 : Try.prog.underlying 39 = some (.struct (Try.prog.fieldsOf 39)) := by
  unfold Program.fieldsOf
  rw [Try.underlying39]

theorem equal39 (w : World) (d : Nat) (a b c e : Int) : (Op.equalIn (d + 2) 39 (.agg #[.int .i64 a, .int .i64 b]) (.agg #[.int .i64 c, .int .i64 e])).run Try.prog w = .ok (decide (a = c ∧ b = e)) w := by
  rw [run_equalIn_struct w (d + 1) 39 _ _ under39 held39, fields39]
  have p0 : ∀ x y : Int, (part 3 #[.int .i64 x, .int .i64 y] 0).run Try.prog w = .ok (.int .i64 x) w := fun x y => by kernel_rfl
  have p1 : ∀ x y : Int, (part 3 #[.int .i64 x, .int .i64 y] 1).run Try.prog w = .ok (.int .i64 y) w := fun x y => by kernel_rfl
  have q : ∀ x y : Int, (Op.equalIn (d + 1) 3 (.int .i64 x) (.int .i64 y)).run Try.prog w = .ok (x == y) w := fun x y => run_equalIn_int w d 3 .i64 .i64 x y Try.underlying3
  simp only [Op.eqFields, Sem.run_bind, Sem.run_ite, p0, p1, q, Result.andThen_ok, Sem.run_pure]
  by_cases h1 : a = c
  · by_cases h2 : b = e
    · simp [h1, h2]
    · simp [h1, h2]
  · simp [h1]

theorem neq39 (w : World) (a b c d : Int) : (binOp .neq 39 (.agg #[.int .i64 a, .int .i64 b]) (.agg #[.int .i64 c, .int .i64 d])).run Try.prog w = .ok (.bool (!decide (a = c ∧ b = d))) w := by
  rw [run_neq_struct, equal39]
  rfl

theorem eqg39 (op : BinOp) (x y : Operand) (xs ys : Array Value) (w : World) : (eqGuard op 39 x y (.agg xs) (.agg ys)).run Try.prog w = .ok () w := run_eqGuard_agg w op 39 x y xs ys guard39

theorem fields33 : (Try.prog.fieldsOf 33).toList = [{ name := "Leaf", type := 3, offset := 0, embedded := false, tag := "", pkgPath := "", byteOffset := 0 }, { name := "Tag", type := 3, offset := 1, embedded := false, tag := "", pkgPath := "", byteOffset := 8 }] := by
  unfold Program.fieldsOf
  rw [Try.underlying33]

theorem held33 : Try.prog.stoodInHeld 33 = false := by kernel_rfl
theorem guard33 : Try.prog.eqGuardType Try.prog.depth 33 = false := by kernel_rfl

theorem under33 : Try.prog.underlying 33 = some (.struct (Try.prog.fieldsOf 33)) := by
  unfold Program.fieldsOf
  rw [Try.underlying33]

theorem equal33 (w : World) (d : Nat) (a b c e : Int) : (Op.equalIn (d + 2) 33 (.agg #[.int .i64 a, .int .i64 b]) (.agg #[.int .i64 c, .int .i64 e])).run Try.prog w = .ok (decide (a = c ∧ b = e)) w := by
  rw [run_equalIn_struct w (d + 1) 33 _ _ under33 held33, fields33]
  have p0 : ∀ x y : Int, (part 3 #[.int .i64 x, .int .i64 y] 0).run Try.prog w = .ok (.int .i64 x) w := fun x y => by kernel_rfl
  have p1 : ∀ x y : Int, (part 3 #[.int .i64 x, .int .i64 y] 1).run Try.prog w = .ok (.int .i64 y) w := fun x y => by kernel_rfl
  have q : ∀ x y : Int, (Op.equalIn (d + 1) 3 (.int .i64 x) (.int .i64 y)).run Try.prog w = .ok (x == y) w := fun x y => run_equalIn_int w d 3 .i64 .i64 x y Try.underlying3
  simp only [Op.eqFields, Sem.run_bind, Sem.run_ite, p0, p1, q, Result.andThen_ok, Sem.run_pure]
  by_cases h1 : a = c
  · by_cases h2 : b = e
    · simp [h1, h2]
    · simp [h1, h2]
  · simp [h1]

theorem neq33 (w : World) (a b c d : Int) : (binOp .neq 33 (.agg #[.int .i64 a, .int .i64 b]) (.agg #[.int .i64 c, .int .i64 d])).run Try.prog w = .ok (.bool (!decide (a = c ∧ b = d))) w := by
  rw [run_neq_struct, equal33]
  rfl

theorem eqg33 (op : BinOp) (x y : Operand) (xs ys : Array Value) (w : World) : (eqGuard op 33 x y (.agg xs) (.agg ys)).run Try.prog w = .ok () w := run_eqGuard_agg w op 33 x y xs ys guard33

theorem fields65 : (Try.prog.fieldsOf 65).toList = [{ name := "ID", type := 3, offset := 0, embedded := false, tag := "", pkgPath := "", byteOffset := 0 }, { name := "Place", type := 39, offset := 1, embedded := true, tag := "", pkgPath := "", byteOffset := 8 }] := by
  unfold Program.fieldsOf
  rw [Try.underlying65]

theorem held65 : Try.prog.stoodInHeld 65 = false := by kernel_rfl
theorem guard65 : Try.prog.eqGuardType Try.prog.depth 65 = false := by kernel_rfl

theorem under65 : Try.prog.underlying 65 = some (.struct (Try.prog.fieldsOf 65)) := by
  unfold Program.fieldsOf
  rw [Try.underlying65]

theorem same65 (w : World) (a b c : Int) : (Op.equalIn 10000 65 (.agg #[.int .i64 a, .int .i64 b, .int .i64 c]) (.agg #[.int .i64 a, .int .i64 b, .int .i64 c])).run Try.prog w = .ok true w := by
  rw [run_equalIn_struct w 9999 65 _ _ under65 held65, fields65]
  have p0 : ∀ x y z : Int, (part 3 #[.int .i64 x, .int .i64 y, .int .i64 z] 0).run Try.prog w = .ok (.int .i64 x) w := fun x y z => by kernel_rfl
  have p1 : ∀ x y z : Int, (part 39 #[.int .i64 x, .int .i64 y, .int .i64 z] 1).run Try.prog w = .ok (.agg #[.int .i64 y, .int .i64 z]) w := fun x y z => by kernel_rfl
  have q : ∀ x y : Int, (Op.equalIn 9999 3 (.int .i64 x) (.int .i64 y)).run Try.prog w = .ok (x == y) w := fun x y => run_equalIn_int w 9998 3 .i64 .i64 x y Try.underlying3
  have r : ∀ x y x' y' : Int, (Op.equalIn 9999 39 (.agg #[.int .i64 x, .int .i64 y]) (.agg #[.int .i64 x', .int .i64 y'])).run Try.prog w = .ok (decide (x = x' ∧ y = y')) w := fun x y x' y' => equal39 w 9997 x y x' y'
  simp only [Op.eqFields, Sem.run_bind, Sem.run_ite, p0, p1, q, r, Result.andThen_ok, Sem.run_pure]
  simp

theorem neq65 (w : World) (a b c : Int) : (binOp .neq 65 (.agg #[.int .i64 a, .int .i64 b, .int .i64 c]) (.agg #[.int .i64 a, .int .i64 b, .int .i64 c])).run Try.prog w = .ok (.bool false) w := by
  rw [run_neq_struct, same65]
  rfl

theorem eqg65 (op : BinOp) (x y : Operand) (xs ys : Array Value) (w : World) : (eqGuard op 65 x y (.agg xs) (.agg ys)).run Try.prog w = .ok () w := run_eqGuard_agg w op 65 x y xs ys guard65

set_option maxHeartbeats 1000000 in
theorem places_same {J K : Nat → Prop} (w : World) (va vb : Value) (zs : List (Int × Int)) (ha : Lie J w va zs.length (zs.flatMap f2)) (hb : Lie K w vb zs.length (zs.flatMap f2)) (hl : zs.length ≤ 100000) :
    Calls Try.prog 22 #[va, vb] w fun e w' => e = .returned (.bool true) ∧ Chg no w w' := by
  obtain ⟨a, ca, rfl⟩ := ha.slice
  obtain ⟨b, cb, rfl⟩ := hb.slice
  have HA : Hid _ := ha
  have HB : Hid _ := hb
  obtain ⟨n, hn⟩ : ∃ n, zs.length = n := ⟨_, rfl⟩
  have HNN : Hid (zs.length = n) := hn
  rw [hn] at hl HA HB ⊢
  have hni : (n : Int) ≤ 100000 := by omega
  have hq := fun w => neq39 w
  have hg := fun w op x y xs ys => eqg39 op x y xs ys w
  clear hn ha hb
  go_enter Try.func22, Try.ntmps22
  go_wp2_with fail
  go_loopw [5] (fun i wr => ∃ k : Nat, k ≤ n ∧ i = .int .i64 (k : Int) ∧ Chg no w wr) (fun i _ => n - (intOf i).toNat)
  case atStart => exact ⟨0, by omega, rfl, Chg.refl no w⟩
  case round =>
    obtain ⟨k, hk, rfl, hC⟩ := hrel
    by_cases hkn : k < n
    · have hki : (k : Int) < n := by omega
      have hkl : k < zs.length := by rw [HNN.out]; exact hkn
      obtain ⟨⟨l, t⟩, hlt⟩ : ∃ x, zs[k]? = some x := ⟨_, List.getElem?_eq_getElem hkl⟩
      obtain ⟨y, rfl, _, e0, e1⟩ := (Lie.same HA.out hC).at2 hlt
      obtain ⟨y', rfl, _, f0, f1⟩ := (Lie.same HB.out hC).at2 hlt
      have HC : Hid (Chg no w wr) := hC
      clear hlt hkl hC
      go_wp2_with fail
      go_quiet (fail)
      go_wp2
      go_roundw
      case rel => exact ⟨k + 1, by omega, by go_num, by first | exact HC.out.drewN _ | exact HC.out.drew | exact HC.out⟩
      case measure => simp [intOf]; omega
    · obtain rfl : k = n := by omega
      have hki : (k : Int) ≤ k := by omega
      go_wp2
      go_ret
      exact ⟨rfl, hC⟩

set_option maxHeartbeats 1000000 in
theorem changes_same {J K : Nat → Prop} (w : World) (va vb : Value) (zs : List (Int × Int × Int)) (ha : Lie J w va zs.length (zs.flatMap f3)) (hb : Lie K w vb zs.length (zs.flatMap f3)) (hl : zs.length ≤ 100000) :
    Calls Try.prog 24 #[va, vb] w fun e w' => e = .returned (.bool true) ∧ Chg no w w' := by
  obtain ⟨a, ca, rfl⟩ := ha.slice
  obtain ⟨b, cb, rfl⟩ := hb.slice
  have HA : Hid _ := ha
  have HB : Hid _ := hb
  obtain ⟨n, hn⟩ : ∃ n, zs.length = n := ⟨_, rfl⟩
  have HNN : Hid (zs.length = n) := hn
  rw [hn] at hl HA HB ⊢
  have hni : (n : Int) ≤ 100000 := by omega
  have hq := fun w => neq65 w
  have hg := fun w op x y xs ys => eqg65 op x y xs ys w
  clear hn ha hb
  go_enter Try.func24, Try.ntmps24
  go_wp2_with fail
  go_loopw [5] (fun i wr => ∃ k : Nat, k ≤ n ∧ i = .int .i64 (k : Int) ∧ Chg no w wr) (fun i _ => n - (intOf i).toNat)
  case atStart => exact ⟨0, by omega, rfl, Chg.refl no w⟩
  case round =>
    obtain ⟨k, hk, rfl, hC⟩ := hrel
    by_cases hkn : k < n
    · have hki : (k : Int) < n := by omega
      have hkl : k < zs.length := by rw [HNN.out]; exact hkn
      obtain ⟨⟨d, l, t⟩, hlt⟩ : ∃ x, zs[k]? = some x := ⟨_, List.getElem?_eq_getElem hkl⟩
      obtain ⟨y, rfl, _, e0, e1, e2⟩ := (Lie.same HA.out hC).at3 hlt
      obtain ⟨y', rfl, _, f0, f1, f2⟩ := (Lie.same HB.out hC).at3 hlt
      have HC : Hid (Chg no w wr) := hC
      clear hlt hkl hC
      go_wp2_with fail
      go_quiet (fail)
      go_wp2
      go_roundw
      case rel => exact ⟨k + 1, by omega, by go_num, by first | exact HC.out.drewN _ | exact HC.out.drew | exact HC.out⟩
      case measure => simp [intOf]; omega
    · obtain rfl : k = n := by omega
      have hki : (k : Int) ≤ k := by omega
      go_wp2
      go_ret
      exact ⟨rfl, hC⟩

end Go.Proofs.Ytocbmjkbbbmncaa.st
