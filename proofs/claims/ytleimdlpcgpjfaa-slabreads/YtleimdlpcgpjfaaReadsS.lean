/- What SlabReads asks of a reader, way by way. -/
import Derived.Test.YtleimdlpcgpjfaaParts
import Derived.Test.YtleimdlpcgpjfaaCut
namespace Go.Proofs.Ytleimdlpcgpjfaa.st
open Go.ChangeShapes Go.WideShapes Go.ChangeAt Go.RowKit Go.Proofs.Ytleimdlpcgpjfaa.hp Go.Proofs.Ytleimdlpcgpjfaa.dg
set_option linter.unusedVariables false

theorem RAt.then {w8 wr w' : World} {r : Nat} {F : Nat → Prop} {s t : RS} (h : RAt w8 r F s wr) (h2 : RAt wr r F t w') : RAt w8 r F t w' := ⟨h2.1, h.2.then h2.2⟩

theorem RAt.same {w8 wr w' : World} {r : Nat} {F : Nat → Prop} {s : RS} (h : RAt w8 r F s wr) (k : Chg no wr w') : RAt w8 r F s w' := ⟨h.1.same k, h.2.then (k.of_no _)⟩

theorem rr_any {w8 wr : World} {r : Nat} {F : Nat → Prop} {s T : RS} {G : List Int} (h : RAt w8 r F s wr) (hl : s.1.length ≤ 100000000) (n : Int) (hT : tak s n (decide (0 ≤ n)) = T) (hG : got s T n = G) :
    Calls Try.prog 19 #[.pointer (some ⟨r, 0, none⟩), .int .i64 n] wr fun e w' => ∃ a c J, e = .returned (.slice a G.length c) ∧ RAt w8 r F T w' ∧ Lies J w' (.slice a G.length c) (G.map (Value.int .u8)) := by
  have HR := rraw_any h.1 hl n
  rw [hT, hG] at HR
  refine HR.mono ?_
  rintro e w' ⟨v, w1, rfl, o1, hR, k1⟩
  obtain ⟨a, c, rfl⟩ := owns_shape o1
  exact ⟨a, c, fun _ => True, rfl, (h.then hR).same k1, Lies.of_owns o1 (fun _ _ => trivial)⟩

theorem rn_any {w8 wr : World} {r : Nat} {F : Nat → Prop} {s T : RS} {V : Int} (h : RAt w8 r F s wr) (a : Int) (hT : tak s a (isw a) = T) (hV : tval s a = V) :
    Calls Try.prog 20 #[.pointer (some ⟨r, 0, none⟩), .int .i64 a] wr fun e w' => e = .returned (.int .i64 V) ∧ RAt w8 r F T w' := by
  have HR := rnum_r h.1 a
  rw [hT, hV] at HR
  refine HR.mono ?_
  rintro e w' ⟨rfl, hR⟩
  exact ⟨rfl, h.then hR⟩

theorem tak_failed {zs : List Int} {er n : Int} {al : Bool} (h : er ≠ 0) : tak (zs, er) n al = (zs, er) := by simp [tak, h]
theorem tak_range {zs : List Int} {n : Int} : tak (zs, 0) n false = (zs, 1) := by simp [tak]
theorem tak_short {zs : List Int} {n : Int} (h : (zs.length : Int) < n) : tak (zs, 0) n true = (zs, 3) := by simp [tak, h]
theorem tak_ok {zs : List Int} {k : Nat} (h : k ≤ zs.length) : tak (zs, 0) k true = (zs.drop k, 0) := by
  unfold tak
  rw [if_neg (by simp), if_neg (by simp), if_neg (by simp; omega)]
  simp

theorem got_failed {s : RS} {zs : List Int} {er n : Int} (h : er ≠ 0) : got s (zs, er) n = [] := by simp [got, h]

theorem tval_failed {s : RS} {a : Int} {zs : List Int} {er : Int} (ht : tak s a (isw a) = (zs, er)) (h : er ≠ 0) : tval s a = 0 := by
  unfold tval
  rw [ht, if_neg h]

theorem rr_fail {w8 wr : World} {r : Nat} {F : Nat → Prop} {s : RS} {zs : List Int} {er : Int} (h : RAt w8 r F s wr) (hl : s.1.length ≤ 100000000) (n : Int) (hT : tak s n (decide (0 ≤ n)) = (zs, er)) (he : er ≠ 0) :
    Calls Try.prog 19 #[.pointer (some ⟨r, 0, none⟩), .int .i64 n] wr fun e w' => ∃ a c J, e = .returned (.slice a 0 c) ∧ RAt w8 r F (zs, er) w' ∧ Lies J w' (.slice a 0 c) (([] : List Int).map (Value.int .u8)) :=
  rr_any h hl n hT (got_failed he)

theorem rr_ok {w8 wr : World} {r : Nat} {F : Nat → Prop} {zs : List Int} (A k : Nat) (h : RAt w8 r F (zs.drop A, 0) wr) (hl : zs.length ≤ 100000000) (hk : A + k ≤ zs.length) :
    Calls Try.prog 19 #[.pointer (some ⟨r, 0, none⟩), .int .i64 k] wr fun e w' => ∃ a c J, e = .returned (.slice a k c) ∧ RAt w8 r F (zs.drop (A + k), 0) w' ∧ Lies J w' (.slice a k c) (((zs.drop A).take k).map (Value.int .u8)) := by
  have e : tak (zs.drop A, 0) k (decide ((0 : Int) ≤ k)) = (zs.drop (A + k), 0) := by
    rw [decide_eq_true (by omega), tak_ok (by simp; omega), List.drop_drop]
  have e2 : ((zs.drop A).take k).length = k := by simp; omega
  have HR := rr_any (G := (zs.drop A).take k) h (by simp; omega) k e (by simp [got])
  rw [e2] at HR
  exact HR

theorem rn_ok {w8 wr : World} {r : Nat} {F : Nat → Prop} {zs : List Int} (A k : Nat) (h : RAt w8 r F (zs.drop A, 0) wr) (h1 : 1 ≤ k) (h2 : k ≤ 7) (hk : A + k ≤ zs.length) :
    Calls Try.prog 20 #[.pointer (some ⟨r, 0, none⟩), .int .i64 k] wr fun e w' => e = .returned (.int .i64 (told ((zs.drop A).take k))) ∧ RAt w8 r F (zs.drop (A + k), 0) w' := by
  have e : tak (zs.drop A, 0) k (isw k) = (zs.drop (A + k), 0) := by
    rw [isw_of k h1 h2, tak_ok (by simp; omega), List.drop_drop]
  refine rn_any h k e ?_
  unfold tval
  rw [e, if_pos rfl]
  simp

theorem zeros_take (D : List Int) (t : Nat) (ht : t < D.length) : zeros (D.take (t + 1)) = (zeros (D.take t) && (D.getD t 0 == 0)) := by
  have e : D.getD t 0 = D[t] := by simp [List.getD_eq_getElem?_getD, List.getElem?_eq_getElem ht]
  unfold zeros
  rw [List.take_succ_eq_append_getElem ht, List.all_append, e]
  simp

/-- What the law's second loop holds. -/
def endOf (D : List Int) (t : Nat) : Int := if zeros (D.take t) then 0 else 2

theorem endOf_zero (D : List Int) : endOf D 0 = 0 := rfl

theorem endOf_step (D : List Int) (t : Nat) (ht : t < D.length) : (D.getD t 0 = 0 → endOf D (t + 1) = endOf D t) ∧ (D.getD t 0 ≠ 0 → endOf D (t + 1) = 2) := by
  have h := zeros_take D t ht
  refine ⟨fun e => ?_, fun e => ?_⟩
  · unfold endOf
    rw [h, e]
    simp
  · unfold endOf
    have e' : (D.getD t 0 == 0) = false := by rw [beq_eq_false_iff_ne]; exact e
    rw [h, e', Bool.and_false, if_neg (by decide)]

theorem endOf_all (D : List Int) : endOf D D.length = endS (D, 0) := by
  unfold endOf endS
  rw [List.take_length]
  simp

end Go.Proofs.Ytleimdlpcgpjfaa.st
