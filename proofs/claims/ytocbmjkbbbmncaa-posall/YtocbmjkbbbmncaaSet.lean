/- Contracts of Get, Set and Settle. -/
import Derived.Test.YtocbmjkbbbmncaaSml
namespace Go.Proofs.Ytocbmjkbbbmncaa.st
open Go.ChangeShapes Go.WideShapes Go.ChangeAt Go.RowKit Go.Proofs.Ytocbmjkbbbmncaa.hp
set_option linter.unusedVariables false

/-- The places behind a Set. -/
def setP (ps : List (Int × Int)) (d l t : Int) : List (Int × Int) := if may ps.length d l t = true then ps.set d.toNat (l, t) else ps
/-- The marks behind a Set. -/
def setC (n : Nat) (ch : List Bool) (d l t : Int) : List Bool := if may n d l t = true then ch.set d.toNat true else ch
/-- What Get tells. -/
def getP (ps : List (Int × Int)) (d : Int) : Int × Int := if isId ps.length d = true then ps.getD d.toNat (0, 0) else (0, 0)

theorem setP_length (ps : List (Int × Int)) (d l t : Int) : (setP ps d l t).length = ps.length := by
  unfold setP
  split
  · exact List.length_set
  · rfl

theorem setC_length (n : Nat) (ch : List Bool) (d l t : Int) : (setC n ch d l t).length = ch.length := by
  unfold setC
  split
  · exact List.length_set
  · rfl

theorem get_any {p : Nat} {pv cv : Value} {ps : List (Int × Int)} {ch : List Bool} {w : World} (h : Mp 63 33 p pv cv ps ch w) (d : Int) :
    Calls Try.prog 20 #[pt p, .int .i64 d] w fun e w' => e = .returned (.tuple #[nv (getP ps d).1 (getP ps d).2, .bool (isId ps.length d)]) ∧ Chg no w w' := by
  have K : Chg no w (w.alloc (.cells #[.int .i64 0, .int .i64 0] 33)) := (Chg.refl no w).alloc _
  have h1 := h.same K
  have HH := has_any h1 d
  have hp := (h.cells).2.2.2
  cases ha : isId ps.length d
  · have hg : getP ps d = (0, 0) := by unfold getP; rw [ha]; rfl
    rw [hg]
    rw [ha] at HH
    clear h h1 hg ha
    go_enter Try.func20, Try.ntmps20
    go_wp2_with fail
    refine HH.mono ?_
    rintro e w1 ⟨rfl, rfl⟩
    clear HH
    go_wp2
    have hres : Try.f20.results = #[.cell 4 33, .tmp 5] := by kernel_rfl
    refine bodyPost_ret (v := .tuple #[nv 0 0, .bool false]) ?_ rfl ⟨rfl, ?_⟩
    · simp only [results, hres]
      go_simp
    · exact (Chg.refl no w).alloc _
  · have hd : 0 ≤ d ∧ d < ps.length := by unfold isId at ha; simpa using ha
    obtain ⟨k, rfl⟩ := Int.eq_ofNat_of_zero_le hd.1
    have hk : k < ps.length := by omega
    obtain ⟨l, t, hlt⟩ : ∃ l t, ps[k]? = some (l, t) := ⟨ps[k].1, ps[k].2, List.getElem?_eq_getElem hk⟩
    have hg : getP ps (k : Int) = (l, t) := by
      unfold getP
      rw [ha, if_pos rfl, List.getD_eq_getElem?_getD, Int.toNat_natCast, hlt]
      rfl
    rw [hg]
    rw [ha] at HH
    obtain ⟨c0, _, _, _⟩ := h1.cells
    obtain ⟨g, c, rfl, e0, e1, _, _, hgp, hgl⟩ := h1.at hlt
    obtain ⟨n, hn⟩ : ∃ n, ps.length = n := ⟨_, rfl⟩
    rw [hn] at c0 hk
    have hki : (k : Int) < n := by omega
    have hgw : g ≠ w.heap.size := by
      have := (h.row.lt g rfl).2
      omega
    have hgs : g < w.heap.size := (h.row.lt g rfl).2
    clear h h1 hg ha hd hlt hn hgl
    go_enter Try.func20, Try.ntmps20
    go_wp2_with fail
    refine HH.mono ?_
    rintro e w1 ⟨rfl, rfl⟩
    clear HH
    go_wp2
    have hres : Try.f20.results = #[.cell 4 33, .tmp 5] := by kernel_rfl
    refine bodyPost_ret (v := .tuple #[nv l t, .bool true]) ?_ rfl ⟨rfl, ?_⟩
    · simp only [results, hres]
      go_simp
    · exact (Chg.refl no w).alloc _

set_option maxHeartbeats 1000000 in
theorem set_any {p : Nat} {pv cv : Value} {ps : List (Int × Int)} {ch : List Bool} {w : World} (h : Mp 63 33 p pv cv ps ch w) (d l t : Int) :
    Calls Try.prog 12 #[pt p, .int .i64 d, nv l t] w fun e w' => e = .returned (.bool (may ps.length d l t)) ∧ Mp 63 33 p pv cv (setP ps d l t) (setC ps.length ch d l t) w' ∧ Chg (Ft p pv cv) w w' := by
  have K : Chg no w (w.alloc (.cells #[.int .i64 l, .int .i64 t] 33)) := (Chg.refl no w).alloc _
  have h1 := h.same K
  have HH := maySet_any h1 d l t
  cases ha : may ps.length d l t
  · have e1 : setP ps d l t = ps := by unfold setP; rw [ha]; rfl
    have e2 : setC ps.length ch d l t = ch := by unfold setC; rw [ha]; rfl
    rw [e1, e2]
    rw [ha] at HH
    have HM : Hid _ := h
    clear h1 e1 e2 ha h
    go_enter Try.func12, Try.ntmps12
    go_wp2_with fail
    refine HH.mono ?_
    rintro e w1 ⟨rfl, k1⟩
    clear HH
    go_wp2
    go_ret
    exact ⟨rfl, HM.out.same (K.then k1), (K.then k1).of_no _⟩
  · have hd : 0 ≤ d ∧ d < ps.length ∧ 0 ≤ l ∧ 0 ≤ t := by unfold may at ha; simpa using ha
    obtain ⟨k, rfl⟩ := Int.eq_ofNat_of_zero_le hd.1
    have hk : k < ps.length := by omega
    have e1 : setP ps k l t = ps.set k (l, t) := by unfold setP; rw [ha, if_pos rfl, Int.toNat_natCast]
    have e2 : setC ps.length ch k l t = ch.set k true := by unfold setC; rw [ha, if_pos rfl, Int.toNat_natCast]
    rw [e1, e2]
    rw [ha] at HH
    have HM : Hid _ := h
    have hps := h.lt p (.inl rfl)
    clear h1 e1 e2 ha h hd
    go_enter Try.func12, Try.ntmps12
    go_wp2_with fail
    refine HH.mono ?_
    rintro e w1 ⟨rfl, k1⟩
    have K1 := K.then k1
    have h1 := HM.out.same K1
    have g0 : w1.heap[w.heap.size]? = some (.cells #[.int .i64 l, .int .i64 t] 33 (0, 0)) := k1.heap (heap_alloc_new _ _) id
    obtain ⟨b0, _⟩ := row_cell (xs := [_, _]) g0 0 _ rfl
    obtain ⟨b1, _⟩ := row_cell (xs := [_, _]) g0 1 _ rfl
    obtain ⟨c0, c1, _, hp⟩ := h1.cells
    obtain ⟨g, c, hpv, f0, f1, f2', f3', hgp, hgl⟩ := h1.at (List.getElem?_eq_getElem hk : ps[k]? = some (ps[k].1, ps[k].2))
    have hkc : k < ch.length := by rw [h1.len]; exact hk
    obtain ⟨g', c', hcv, m0, m1, hgp', hgl'⟩ := h1.mark_at (List.getElem?_eq_getElem hkc)
    have hgg : g ≠ g' := fun e => HM.out.pc g (by rw [hpv]; rfl) (by rw [hcv, e]; rfl)
    have HX : Hid (Mp 63 33 p pv cv (ps.set k (l, t)) (ch.set k true) (((w1.setCell ⟨g, k * 2, none⟩ (.int .i64 l)).setCell ⟨g, k * 2 + 1, none⟩ (.int .i64 t)).setCell ⟨g', k, none⟩ (.bool true)).drew) := by
      have h2 := h1
      rw [hpv, hcv] at h2 ⊢
      exact ((h2.put k (l, t)).mark k true).same ((Chg.refl no _).drew)
    have HY : Hid (Chg (Ft p pv cv) w (((w1.setCell ⟨g, k * 2, none⟩ (.int .i64 l)).setCell ⟨g, k * 2 + 1, none⟩ (.int .i64 t)).setCell ⟨g', k, none⟩ (.bool true)).drew) := by
      have q1 := (K1.of_no (Ft p pv cv)).setCell ⟨g, k * 2, none⟩ (.int .i64 l) (.inl (.inr (.inl (by rw [hpv]; rfl))))
      have q2 := q1.setCell ⟨g, k * 2 + 1, none⟩ (.int .i64 t) (.inl (.inr (.inl (by rw [hpv]; rfl))))
      exact (q2.setCell ⟨g', k, none⟩ (.bool true) (.inl (.inr (.inr (by rw [hcv]; rfl))))).drew
    rw [hpv] at c0
    rw [hcv] at c1
    have hki : (k : Int) < ps.length := by omega
    obtain ⟨n, hn⟩ : ∃ n, ps.length = n := ⟨_, rfl⟩
    rw [hn] at c0 c1 hki
    have hxw : g ≠ w.heap.size := by
      have := HM.out.lt g (.inr (.inl (by rw [hpv]; rfl)))
      omega
    clear HH hp g0
    go_wp2_with fail
    go_region
    go_wp2
    go_ret
    refine ⟨rfl, ?_, ?_⟩
    · exact HX.out
    · exact HY.out

theorem zero4 (w : World) : (zeroValue 4).run Try.prog w = .ok (.bool false) w := by
  kernel_rfl

theorem settle_any {p : Nat} {pv cv : Value} {ps : List (Int × Int)} {ch : List Bool} {w : World} (h : Mp 63 33 p pv cv ps ch w) :
    Calls Try.prog 15 #[pt p] w fun e w' => e = .returned (.tuple #[]) ∧ Mp 63 33 p pv cv ps (List.replicate ps.length false) w' ∧ Chg (Ft p pv cv) w w' := by
  obtain ⟨c0, c1, _, hp⟩ := h.cells
  have hlen := h.len
  rcases Nat.eq_zero_or_pos ps.length with hz | hz
  · obtain ⟨_, ⟨a, c, hcv⟩⟩ := h.shape
    have hch : ch = [] := List.eq_nil_of_length_eq_zero (by omega)
    subst hch
    have hcl : ∀ ty, (Builtin.clear_ #[47] ty #[.slice a 0 c]).run Try.prog w = .ok (.tuple #[]) w := fun ty => by
      cases a <;> simp [Builtin.clear_, run_underlying Try.underlying47]
    rw [hz] at hcv
    rw [hcv] at c1
    have HM : Hid (Mp 63 33 p pv cv ps (List.replicate ps.length false) w) := by
      rw [hz]
      exact h
    clear h hlen hz c0 hcv
    go_enter Try.func15, Try.ntmps15
    go_wp2
    go_end0
    exact ⟨rfl, HM.out, Chg.refl _ w⟩
  · have hch : 0 < ch.length := by omega
    obtain ⟨g, c, hcv, hx1, hx2⟩ := h.mark_at (List.getElem?_eq_getElem hch)
    obtain ⟨n, hn⟩ : ∃ n, ps.length = n := ⟨_, rfl⟩
    rw [hn] at hcv hz
    subst hcv
    have hm := h.mks
    rw [hn] at hm
    have hcl : ∀ ty, (Builtin.clear_ #[47] ty #[.slice (some ⟨g, 0, none⟩) n c]).run Try.prog w = .ok (.tuple #[]) (w.setCells g 0 (List.replicate n (.bool false))) :=
      fun ty => Lib.run_clear_slice w 47 4 ty (.bool false) Try.underlying47 zero4 rfl rfl g 0 n c hz (fun j hj => by
        rw [Nat.zero_add, hm.cellAt j (by omega), List.getElem?_eq_getElem (by rw [hm.1]; omega)]
        rfl) (fun j hj => hm.frozenAt _)
    have HM : Hid _ := h.cleared
    have HC : Hid (Chg (Ft p pv (.slice (some ⟨g, 0, none⟩) n c)) w (w.setCells g 0 (List.replicate n (.bool false)))) := (Chg.refl _ w).setCells g (.inl (.inr (.inr rfl))) _ _
    clear hx1 hx2 h hlen hm hch c0
    rw [hn]
    clear hn
    obtain ⟨W, hW⟩ : ∃ W, w.setCells g 0 (List.replicate n (.bool false)) = W := ⟨_, rfl⟩
    rw [hW] at hcl HM HC
    clear hW
    go_enter Try.func15, Try.ntmps15
    go_wp2
    go_end0
    exact ⟨rfl, HM.out, HC.out⟩

end Go.Proofs.Ytocbmjkbbbmncaa.st
