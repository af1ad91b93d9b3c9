/- The document's Cells, Batch. -/
import Derived.Test.YtfhpdcimdeilpaaDa
namespace Go.Proofs.Ytfhpdcimdeilpaa.far
variable {P : Program} {ops : Array Oper}
/-- A mover that is no call: the j-th. -/
theorem farO_move {L : Plan} {Q : Act → World → Prop} {k : Nat} {o : Oper} {r : List Oper} {a : Act} {w : World} {C : Nat → World → Prop} {ms : List Nat} (h1 : L.C = C) (h2 : L.ms = ms) (j : Nat) (hj : ms.contains k = true) (hj' : ms.idxOf k = j)
    (hw : Region.wanted o (yielded ops a.tmps) = true)
    (h : Moves P o a w (fun v w' => C (j + 1) w' ∧ farO L P ops Q (k + 1) r (a.put o.dst v) w')) : farO L P ops Q k (o :: r) a w := by
  simp only [farO]
  rw [if_pos hw, if_pos (by rw [h2]; exact hj), h1, h2, hj']
  exact h
end Go.Proofs.Ytfhpdcimdeilpaa.far
namespace Go.Proofs.Ytfhpdcimdeilpaa.st
open Go.ChangeShapes Go.WideShapes Go.ChangeAt Go.RowKit Go.Proofs.Ytfhpdcimdeilpaa.hp
set_option linter.unusedVariables false
set_option linter.unusedSimpArgs false

/-- Cells of a length: rounded up. -/
def clN (len pay : Nat) : Nat := (len + pay - 1) / pay

theorem clN_eq (len pay : Nat) (hp : 1 ≤ pay) : clN len pay = len / pay + (if 0 < len % pay then 1 else 0) := by
  unfold clN
  have h1 := Nat.div_add_mod len pay
  have h2 := Nat.mod_lt len hp
  obtain ⟨q, hq⟩ : ∃ q, len / pay = q := ⟨_, rfl⟩
  obtain ⟨m, hm⟩ : ∃ m, len % pay = m := ⟨_, rfl⟩
  rw [hq, hm] at h1
  rw [hm] at h2
  rw [hq, hm]
  split
  · refine Nat.div_eq_of_lt_le ?_ ?_
    · rw [Nat.add_mul, Nat.mul_comm q]
      omega
    · rw [Nat.add_mul, Nat.add_mul, Nat.mul_comm q]
      omega
  · refine Nat.div_eq_of_lt_le ?_ ?_
    · rw [Nat.add_zero, Nat.mul_comm q]
      omega
    · rw [Nat.add_mul, Nat.add_zero, Nat.mul_comm q]
      omega

theorem rcells2_any (w : World) (len pay : Nat) (h1 : 1 ≤ len) (h2 : 1 ≤ pay) (h3 : len ≤ 1000000) (h4 : pay ≤ 1000000) : Calls Try.prog 82 #[.int .i64 len, .int .i64 pay] w fun e w' => e = .returned (.int .i64 ((clN len pay : Nat) : Int)) ∧ w' = w := by
  have he := clN_eq len pay h2
  have i1 : ¬ (len : Int) < 1 := by omega
  have i2 : ¬ (pay : Int) < 1 := by omega
  have i3 : (len : Int) ≤ 1000000 := by omega
  have i4 : (pay : Int) ≤ 1000000 := by omega
  have i5 : (pay : Int) ≠ 0 := by omega
  have hq : (len : Int).tdiv (pay : Int) = ((len / pay : Nat) : Int) := rfl
  have hr : (len : Int).tmod (pay : Int) = ((len % pay : Nat) : Int) := rfl
  have hql : len / pay ≤ len := Nat.div_le_self _ _
  obtain ⟨q, hq'⟩ : ∃ q, len / pay = q := ⟨_, rfl⟩
  obtain ⟨m, hm⟩ : ∃ m, len % pay = m := ⟨_, rfl⟩
  obtain ⟨R, hR⟩ : ∃ R, clN len pay = R := ⟨_, rfl⟩
  rw [hR] at he ⊢
  rw [hq', hm] at he
  rw [hq'] at hq hql
  rw [hm] at hr
  have hqi : (q : Int) ≤ 1000000 := by omega
  clear hq' hm hR h1 h2 h3 h4
  by_cases h : 0 < m
  · rw [if_pos h] at he
    have hi : 0 < (m : Int) := by omega
    have hR1 : Hid ((q : Int) + 1 = (R : Int)) := by show _ = _; omega
    clear he
    go_enter Try.func82, Try.ntmps82
    go_wp2
    go_ret
    exact ⟨ret_int hR1.out, rfl⟩
  · rw [if_neg h] at he
    have hi : ¬ 0 < (m : Int) := by omega
    rw [Nat.add_zero] at he
    subst he
    clear h
    go_enter Try.func82, Try.ntmps82
    go_wp2
    go_ret
    exact ⟨rfl, rfl⟩

theorem pay_le {K : Cf} (hK : okC K) : 38 ≤ payN K ∧ payN K ≤ 152 := by
  have := hK.z
  unfold payN
  omega

theorem rcells_any (w : World) (K : Cf) (hK : okC K) (a : Option Addr) (n c : Nat) (len : Nat) (h1 : 1 ≤ len) (h3 : len ≤ 1000000) : Calls Try.prog 65 #[cfgV K (.slice a n c), .int .i64 len] w fun e w' => e = .returned (.int .i64 ((clN len (payN K) : Nat) : Int)) ∧ Chg no w w' := by
  have H1 : Hid (∀ W, _) := fun W => rpay_any W K hK a n c
  have hp := pay_le hK
  have H2 : Hid (∀ W, _) := fun W => rcells2_any W len (payN K) h1 (by omega) h3 (by omega)
  obtain ⟨P, hP⟩ : ∃ P, payN K = P := ⟨_, rfl⟩
  simp only [hP] at H1 H2 ⊢
  obtain ⟨R, hR⟩ : ∃ R, clN len P = R := ⟨_, rfl⟩
  simp only [hR] at H2 ⊢
  obtain ⟨h, z, b, r, rd, wr, s, p, q, t⟩ := K
  try simp only at *
  clear hK hP hR hp
  go_enter Try.func65, Try.ntmps65
  go_wp2_with fail
  refine (H1.out _).mono ?_
  rintro e w2 ⟨rfl, k2⟩
  go_wp2_with fail
  refine (H2.out _).mono ?_
  rintro e w3 ⟨rfl, hw⟩
  subst hw
  go_wp2
  go_ret
  exact ⟨rfl, ((Chg.refl no w).alloc _).then k2⟩

/-- What Batch tells. -/
def batchI (K : Cf) (i : Int) : Int := if 0 ≤ i ∧ i < K.r then K.rd else if i = K.r then K.wr else 0

theorem rbatch_any (w : World) (K : Cf) (a : Option Addr) (n c : Nat) (i : Int) : Calls Try.prog 19 #[cfgV K (.slice a n c), .int .i64 i] w fun e w' => e = .returned (.int .i64 (batchI K i)) ∧ Chg no w w' := by
  have hc : (i < 0 ∧ ¬ i = (K.r : Int)) ∨ (0 ≤ i ∧ i < K.r) ∨ (0 ≤ i ∧ i = (K.r : Int)) ∨ (0 ≤ i ∧ (K.r : Int) < i) := by omega
  obtain ⟨R, hR⟩ : ∃ R, batchI K i = R := ⟨_, rfl⟩
  rw [hR]
  unfold batchI at hR
  obtain ⟨h, z, b, r, rd, wr, s, p, q, t⟩ := K
  try simp only at *
  rcases hc with ⟨h1, h2⟩ | ⟨h1, h2⟩ | ⟨h1, h2⟩ | ⟨h1, h2⟩
  · rw [if_neg (by omega), if_neg h2] at hR
    subst hR
    have h3 : ¬ 0 ≤ i := by omega
    go_enter Try.func19, Try.ntmps19
    go_wp2
    go_ret
    exact ⟨rfl, (Chg.refl no w).alloc _⟩
  · rw [if_pos ⟨h1, h2⟩] at hR
    subst hR
    go_enter Try.func19, Try.ntmps19
    go_wp2
    go_ret
    exact ⟨rfl, (Chg.refl no w).alloc _⟩
  · rw [if_neg (by omega), if_pos h2] at hR
    subst hR
    have h3 : ¬ i < (r : Int) := by omega
    go_enter Try.func19, Try.ntmps19
    go_wp2
    go_ret
    exact ⟨rfl, (Chg.refl no w).alloc _⟩
  · rw [if_neg (by omega), if_neg (by omega)] at hR
    subst hR
    have h3 : ¬ i < (r : Int) := by omega
    have h4 : ¬ i = (r : Int) := by omega
    go_enter Try.func19, Try.ntmps19
    go_wp2
    go_ret
    exact ⟨rfl, (Chg.refl no w).alloc _⟩

end Go.Proofs.Ytfhpdcimdeilpaa.st
