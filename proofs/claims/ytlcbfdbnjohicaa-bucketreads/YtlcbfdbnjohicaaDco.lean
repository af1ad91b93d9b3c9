/- Contract of Decode. -/
import Derived.Test.YtlcbfdbnjohicaaRbl
namespace Go.Proofs.Ytlcbfdbnjohicaa.st
open Go.ChangeShapes Go.WideShapes Go.ChangeAt Go.RowKit Go.Proofs.Ytlcbfdbnjohicaa.hp Go.Proofs.Ytlcbfdbnjohicaa.dg
set_option linter.unusedVariables false

/-- What Decode answers: blocks in new memory. -/
def DecR (t : TypeId) (R : List Bk × Int) (w : World) (e : Ending) (w' : World) : Prop :=
  ∃ v xs D, e = .returned (.tuple #[v, .int .i64 R.2]) ∧ abs xs = R.1 ∧ NewB t no w D xs v w' ∧ (∀ b, D b → w.heap.size ≤ b)

theorem NewB.up {t : TypeId} {G D : Nat → Prop} {w w1 w2 : World} {xs : List BV} {v : Value} (h : NewB t G w1 D xs v w2) (k : Chg no w w1) (hG : ∀ b, G b → w.heap.size ≤ b) : NewB t no w D xs v w2 :=
  ⟨owns_base h.row k.size, k.trans h.chg (fun b hb => .inr (hG b hb)), fun b hb => hb.elim, h.dat, h.sep, fun b hb hf => hf, h.dl⟩

theorem NewB.empty {t : TypeId} {w w' : World} (k : Chg no w w') : NewB t no w no [] (.slice none 0 0) w' :=
  (NewB.start (fun _ h => h.elim) (fun b hb => hb.elim) : NewB t no w no [] (.slice none 0 0) w).same k

theorem DecR.none {t : TypeId} {w w' : World} {R : List Bk × Int} {er : Int} (he : R = ([], er)) (k : Chg no w w') : DecR t R w (.returned (.tuple #[.slice none 0 0, .int .i64 er])) w' := by
  subst he
  exact ⟨_, [], no, rfl, rfl, NewB.empty k, fun b hb => hb.elim⟩

theorem prs_len (n : Nat) (b : List Int) : (prs n b).1.length ≤ n ∧ (prs n b).2.length ≤ b.length := by
  induction n generalizing b with
  | zero => simp [prs]
  | succ n ih =>
    by_cases h : b.headD 0 = 0
    · rw [prs_zero n b h]
      simp
    · rw [prs_more n b h]
      have := ih (b.drop 38)
      simp only [List.length_cons, List.length_drop] at this ⊢
      omega

set_option maxHeartbeats 4000000 in
theorem decode_any {J : Nat → Prop} (w : World) (z : Int) (v : Value) (zs : List Int) (hv : Lies J w v (zs.map (Value.int .u8))) (hb : Bytes zs) (hl : zs.length ≤ 100000000) :
    Calls Try.prog 20 #[.int .i64 z, v] w (DecR 46 (decL z zs) w) := by
  have HS := isSize_any w z
  have HN := newReader_any w v zs hv hb hl
  obtain ⟨a, cap, rfl, _⟩ := hv.slice
  simp only [List.length_map] at HN ⊢
  clear hv
  obtain ⟨n, hn⟩ : ∃ n, zs.length = n := ⟨_, rfl⟩
  by_cases hz : 1 ≤ z ∧ z ≤ 4
  · have hzz : isZ z = true := decide_eq_true hz
    rw [hzz] at HS
    obtain ⟨Z, rfl⟩ := Int.eq_ofNat_of_zero_le (show 0 ≤ z by omega)
    have hle : lenL (Z : Int) = ((38 * Z : Nat) : Int) := by
      unfold lenL
      rw [if_pos hz]
      omega
    have HLn := length_any w (Z : Int)
    rw [hle] at HLn
    obtain ⟨N, hN⟩ : ∃ N, 38 * Z = N := ⟨_, rfl⟩
    rw [hN] at hle HLn
    have hZ4 : Z ≤ 4 := by omega
    by_cases hnN : n = N
    · subst hnN
      have hD : Hid (decL Z zs = if zeros (prs Z zs).2 = true ∧ mayP (prs Z zs).1 then ((prs Z zs).1, 0) else ([], 2)) := by
        unfold decL
        rw [if_pos hz]
        by_cases h : zeros (prs Z zs).2 = true ∧ mayP (prs Z zs).1
        · rw [if_pos h, Hid]
          simp only [Int.toNat_natCast]
          rw [if_pos ⟨by omega, h.1, h.2⟩]
        · rw [if_neg h, Hid]
          simp only [Int.toNat_natCast]
          rw [if_neg (fun k => h k.2)]
      have HRB : Hid (∀ w1 p, Rea w1 p (fun k => w.heap.size ≤ k ∧ k < w1.heap.size) zs 0 → Calls Try.prog 31 #[.pointer (some ⟨p, 0, none⟩), .int .i64 Z] w1 (RblR w1 p (fun k => w.heap.size ≤ k ∧ k < w1.heap.size) (prs Z zs))) := fun w1 p h => readBlocks_any Z h (by omega) hZ4
      have HLl : Hid ((prs Z zs).1.length ≤ 4 ∧ (prs Z zs).2.length ≤ 200) := by
        have := prs_len Z zs
        exact ⟨by omega, by omega⟩
      rw [hn] at HN ⊢
      clear hl hb hz hzz hle hN
      go_enter Try.func20, Try.ntmps20
      go_wp2_with fail
      refine HS.mono ?_
      rintro e w0 ⟨rfl, rfl⟩
      clear HS
      go_wp2_with fail
      refine HLn.mono ?_
      rintro e w0' ⟨rfl, rfl⟩
      clear HLn
      have hnn : ((n : Int) != (n : Int)) = false := by simp
      go_wp2_with fail
      refine HN.mono ?_
      rintro e w1 ⟨p, rfl, hR, k1⟩
      have HC := HRB.out w1 p hR
      have hp := hR.fp.1
      have HK1 : Hid (Chg no w0' w1) := k1
      clear HN hR k1 HRB
      go_wp2_with fail
      refine HC.mono ?_
      rintro e w2 ⟨v2, xs, D, rfl, N2, hDn, R2, hx⟩
      clear HC
      have HE := end_any (s := ((prs Z zs).2, 0)) R2 (by have := HLl.out.2; simp only; omega)
      have HM := may_any w2 v2 xs N2.bks (by rw [← abs_len, hx]; have := HLl.out.1; omega)
      rw [hx] at HM
      have e0 : endS ((prs Z zs).2, 0) = if zeros (prs Z zs).2 then 0 else 2 := by simp [endS]
      rw [e0] at HE
      obtain ⟨a2, c2, rfl⟩ := N2.shape
      have HN2 : Hid (NewB 46 no w0' D xs (.slice a2 xs.length c2) w2) := N2.up HK1.out (fun b hb => by have hb : b = p := hb; rw [hb]; exact hp)
      have HDN : Hid (∀ b, D b → w0'.heap.size ≤ b) := fun b hb => Nat.le_trans HK1.out.size (hDn b hb)
      have HX : Hid (abs xs = (prs Z zs).1) := hx
      clear N2 hDn R2 hx e0
      obtain ⟨m, hm⟩ : ∃ m, xs.length = m := ⟨_, rfl⟩
      rw [hm] at HN2 HM
      rw [hm]
      clear hm
      by_cases hzr : zeros (prs Z zs).2 = true
      · rw [if_pos hzr] at HE
        by_cases hmp : mayP (prs Z zs).1
        · have HF : Hid (∀ w3, Chg no w2 w3 → DecR 46 (decL Z zs) w0' (.returned (.tuple #[.slice a2 m c2, .int .i64 0])) w3) := by
            intro w3 k3
            rw [hD.out, if_pos ⟨hzr, hmp⟩]
            exact ⟨_, xs, D, rfl, HX.out, HN2.out.same k3, HDN.out⟩
          rw [show mayL (prs Z zs).1 = true from decide_eq_true hmp] at HM
          clear hmp hzr
          go_wp2_with fail
          refine HE.mono ?_
          rintro e w3 ⟨rfl, rfl⟩
          clear HE
          go_wp2_with fail
          refine HM.mono ?_
          rintro e w4 ⟨rfl, k4⟩
          clear HM
          go_wp2
          go_ret2
          exact HF.out _ k4
        · have HF : Hid (∀ w3, Chg no w2 w3 → DecR 46 (decL Z zs) w0' (.returned (.tuple #[.slice none 0 0, .int .i64 2])) w3) := by
            intro w3 k3
            exact DecR.none (by rw [hD.out, if_neg (fun h => hmp h.2)]) (HN2.out.chg.then k3)
          rw [show mayL (prs Z zs).1 = false from decide_eq_false hmp] at HM
          clear hmp hzr
          go_wp2_with fail
          refine HE.mono ?_
          rintro e w3 ⟨rfl, rfl⟩
          clear HE
          go_wp2_with fail
          refine HM.mono ?_
          rintro e w4 ⟨rfl, k4⟩
          clear HM
          go_wp2
          go_ret2
          exact HF.out _ k4
      · have HF : Hid (DecR 46 (decL Z zs) w0' (.returned (.tuple #[.slice none 0 0, .int .i64 2])) w2) := DecR.none (by rw [hD.out, if_neg (fun h => hzr h.1)]) HN2.out.chg
        rw [if_neg hzr] at HE
        clear hzr HM
        go_wp2_with fail
        refine HE.mono ?_
        rintro e w3 ⟨rfl, rfl⟩
        clear HE
        go_wp2
        go_ret2
        exact HF.out
    · have hD : Hid (DecR 46 (decL Z zs) w (.returned (.tuple #[.slice none 0 0, .int .i64 2])) w) := by
        refine DecR.none ?_ (Chg.refl no w)
        unfold decL
        rw [if_pos hz]
        simp only [Int.toNat_natCast]
        rw [if_neg (fun k => hnN (by omega))]
      have hne : ((n : Int) != (N : Int)) = true := by simp; omega
      rw [hn]
      clear hl hb hz hzz hle hN hn HN hnN
      go_enter Try.func20, Try.ntmps20
      go_wp2_with fail
      refine HS.mono ?_
      rintro e w0 ⟨rfl, rfl⟩
      clear HS
      go_wp2_with fail
      refine HLn.mono ?_
      rintro e w0' ⟨rfl, rfl⟩
      clear HLn
      go_wp2
      go_ret2
      exact hD.out
  · have hzz : isZ z = false := decide_eq_false hz
    rw [hzz] at HS
    have HR : Hid (DecR 46 (decL z zs) w (.returned (.tuple #[.slice none 0 0, .int .i64 1])) w) := by
      refine DecR.none ?_ (Chg.refl no w)
      unfold decL
      rw [if_neg hz]
    rw [hn]
    clear hl hb hz hzz HN hn
    go_enter Try.func20, Try.ntmps20
    go_wp2_with fail
    refine HS.mono ?_
    rintro e w0 ⟨rfl, rfl⟩
    clear HS
    go_wp2
    go_ret2
    exact HR.out

end Go.Proofs.Ytlcbfdbnjohicaa.st
