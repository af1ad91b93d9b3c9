/- Contracts of the document's Nums and Bytes, of Parse, the document's ParseNonce; of first. -/
import Derived.Test.YtmchjnmmeankgaaByt
namespace Go.Proofs.Ytmchjnmmeankgaa.st
open Go.ChangeShapes Go.WideShapes Go.ChangeAt Go.RowKit Go.Proofs.Ytmchjnmmeankgaa.hp Go.Proofs.Ytmchjnmmeankgaa.dg
set_option linter.unusedVariables false

def puts (a : Int) (bs ns : List Int) : List Int := ns.foldl (fun b n => putS b a n) bs

theorem putS_len (bs : List Int) (a n : Int) : (putS bs a n).length ≤ bs.length + 7 := by
  unfold putS
  split
  · rename_i h
    unfold okN at h
    simp [enc_length] at h ⊢
    omega
  · omega

theorem puts_len (a : Int) (ns : List Int) (bs : List Int) : (puts a bs ns).length ≤ bs.length + 7 * ns.length := by
  induction ns generalizing bs with
  | nil => simp [puts]
  | cons n ns ih =>
    have h1 := ih (putS bs a n)
    have h2 := putS_len bs a n
    simp only [puts, List.foldl_cons, List.length_cons] at h1 ⊢
    omega

theorem puts_take (a : Int) (bs ns : List Int) (j : Nat) (hj : j < ns.length) : puts a bs (ns.take (j + 1)) = putS (puts a bs (ns.take j)) a (ns.getD j 0) := by
  unfold puts
  rw [List.take_succ_eq_append_getElem hj, List.foldl_append]
  simp [List.getD_eq_getElem?_getD, List.getElem?_eq_getElem hj]

/-- The row within a call that began in w. -/
def PAt (w : World) (G : Nat → Prop) (v : Value) (bs : List Int) (wr : World) : Prop := Row wr (Wid G w wr) v bs ∧ Chg G w wr

theorem PAt.step {w wr w' : World} {G : Nat → Prop} {v v' : Value} {bs bs' : List Int} (h : PAt w G v bs wr) (hR : Row w' (Wid (Wid G w wr) wr w') v' bs') (hC : Chg (Wid G w wr) wr w') : PAt w G v' bs' w' := by
  have s1 := h.2.size
  have s2 := hC.size
  refine ⟨hR.wide ?_ ?_, h.2.trans hC wid_sub⟩
  · intro k hk
    rcases hk with (hk | hk) | hk
    · exact .inl hk
    · exact .inr ⟨hk.1, by omega⟩
    · exact .inr ⟨by omega, hk.2⟩
  · intro k hk
    rcases hk with hk | hk
    · have := h.1.lt k (.inl hk)
      omega
    · exact hk.2

set_option maxHeartbeats 2000000 in
theorem rnums_any {w : World} {G J : Nat → Prop} {v : Value} {bs : List Int} (h : Row w G v bs) (hl : bs.length ≤ 90000000) (a : Int) (x : Value) (ns : List Int) (hx : Lies J w x (ns.map (Value.int .i64))) (hJ : ∀ k, J k → ¬ G k) (hn : ns.length ≤ 1000) :
    Calls Try.prog 45 #[v, .int .i64 a, x] w fun e w' => ∃ v', e = .returned v' ∧ PAt w G v' (puts a bs ns) w' := by
  obtain ⟨x, c, rfl, hcell⟩ := hx.slice
  simp only [List.length_map]
  have HJ : Hid (∀ wr, Chg G w wr → ∀ j, j < ns.length → ∃ y, x = some y ∧ wr.cell? (y.add j) = some (.int .i64 (ns.getD j 0))) := by
    intro wr hC j hj
    obtain ⟨y, hy, hy2, hy3⟩ := hcell j (.int .i64 (ns.getD j 0)) (by rw [List.getElem?_map, List.getD_eq_getElem?_getD, List.getElem?_eq_getElem hj]; rfl)
    exact ⟨y, hy, hC.cell hy3 (by rw [add_block]; exact hJ _ hy2)⟩
  have hni : (ns.length : Int) ≤ 1000 := by omega
  have HB : Hid (PAt w G v (puts a bs (ns.take 0)) w) := ⟨h.wide (fun k hk => .inl hk) (fun k hk => h.lt k (wid_self k hk)), Chg.refl _ _⟩
  obtain ⟨va, vc, rfl⟩ := owns_shape h.own
  clear hcell hJ hx h
  go_enter Try.func45, Try.ntmps45
  go_wp2_with fail
  go_loopw [0, 7] (fun vb i wr => ∃ j : Nat, j ≤ ns.length ∧ i = .int .i64 (j : Int) ∧ PAt w G vb (puts a bs (ns.take j)) wr) (fun _ i _ => ns.length - (intOf i).toNat)
  case atStart => exact ⟨0, by omega, rfl, HB.out⟩
  case round =>
    clear HB
    obtain ⟨j, hj, rfl, hB⟩ := hrel
    obtain ⟨xa, xc, rfl⟩ := owns_shape hB.1.own
    by_cases hjn : j < ns.length
    · have hji : (j : Int) < ns.length := by omega
      obtain ⟨y, rfl, hc⟩ := HJ.out wr hB.2 j hjn
      have ht : (puts a bs (ns.take j)).length ≤ 100000000 := by
        have e1 := puts_len a (ns.take j) bs
        have e3 := List.length_take_le j ns
        omega
      have HN := put_any hB.1 ht a (ns.getD j 0)
      have HS : Hid (∀ v' w', Row w' (Wid (Wid G w wr) wr w') v' (putS (puts a bs (ns.take j)) a (ns.getD j 0)) → Chg (Wid G w wr) wr w' → PAt w G v' (puts a bs (ns.take (j + 1))) w') := by
        intro v' w' q1 q2
        rw [puts_take a bs ns j hjn]
        exact hB.step q1 q2
      clear hB ht
      obtain ⟨N, hN⟩ : ∃ N, ns.getD j 0 = N := ⟨_, rfl⟩
      obtain ⟨T, hT⟩ : ∃ T, puts a bs (ns.take j) = T := ⟨_, rfl⟩
      rw [hN] at hc HN HS
      rw [hT] at HN HS ⊢
      clear hN hT
      go_wp2_with fail
      refine HN.mono ?_
      rintro e w5 ⟨v5, rfl, q1, q1', q2⟩
      have q3 := HS.out _ _ q1 q2
      obtain ⟨a5, c5, rfl⟩ := owns_shape q1.own
      clear HN q1 q1' q2
      go_wp2
      go_roundw
      case rel => exact ⟨j + 1, by omega, by go_num, q3⟩
      case measure => simp [intOf]; omega
    · obtain rfl : j = ns.length := by omega
      have hji : (ns.length : Int) ≤ (ns.length : Int) := by omega
      rw [List.take_length] at hB ⊢
      go_wp2
      go_ret
      exact ⟨_, rfl, hB⟩

theorem puts_two (g c : Int) (h : may g c = true) : puts 6 [] [g, c] = enc g 6 ++ enc c 6 := by
  obtain ⟨h0, h1, h2, h3⟩ := may_of h
  simp [puts, putS, okN6 g h0 h1, okN6 c h2 h3]

/-- What the document's Bytes leaves. -/
def Rys (w : World) (zs : List Int) (e : Ending) (w' : World) : Prop := ∃ x cap J, e = .returned (.slice x 12 cap) ∧ Lies J w' (.slice x 12 cap) (zs.map (Value.int .u8)) ∧ Chg no w w'

set_option maxHeartbeats 1000000 in
theorem rbytes_any (w : World) (g c : Int) : Calls Try.prog 34 #[nv g c] w (Rys w (nbs g c)) := by
  have HM := fun w => rmay_any w g c
  obtain ⟨i0, hi0, hz0, hz1, hz2⟩ := info_parts info5
  obtain ⟨zs, hzs⟩ : ∃ zs, nbs g c = zs := ⟨_, rfl⟩
  have HZ : Hid (nbs g c = zs) := hzs
  rw [hzs]
  have hlen : zs.length = 12 := by rw [← hzs]; exact nbs_length g c
  have HLen : Hid (zs.length = 12) := hlen
  clear hzs hlen
  cases hm : may g c with
  | true =>
    have HT := puts_two g c hm
    have hz : enc g 6 ++ enc c 6 = zs := by
      rw [← HZ.out, nbs, if_pos hm]
    rw [hz] at HT
    simp only [hm] at HM
    clear hz
    go_enter Try.func34, Try.ntmps34
    go_wp2_with fail
    refine (HM _).mono ?_
    rintro e w1 ⟨rfl, k1⟩
    have g0 : w1.heap[w.heap.size]? = some (.cells #[.int .i64 g, .int .i64 c] 46 (0, 0)) := k1.heap (heap_alloc_new _ _) id
    obtain ⟨a0, b0⟩ := row_cell (xs := [_, _]) g0 0 _ rfl
    obtain ⟨a1, b1⟩ := row_cell (xs := [_, _]) g0 1 _ rfl
    have K : Chg no w w1 := ((Chg.refl no w).alloc _).then k1
    have HN := rnums_any (w := w1.alloc (.cells #[.int .i64 g, .int .i64 c] 3)) (G := no) (v := .slice none 0 0) (bs := []) ⟨World.ownsRow_nil _ _ _ _, fun k hk => by simp [Value.ownBlock] at hk, fun k hk => hk.elim⟩ (by simp) 6 _ [g, c] (lies_new [.int .i64 g, .int .i64 c] 3) (fun _ _ h => h) (by simp)
    rw [HT] at HN
    clear k1 g0 HM HT
    go_wp2_with fail
    refine HN.mono ?_
    rintro e w2 ⟨v2, rfl, q1, q2⟩
    have hL := Lies.of_owns q1.own q1.vg
    obtain ⟨xa, xc, rfl⟩ := owns_shape q1.own
    have HL : Hid (Lies (Wid no (w1.alloc (.cells #[.int .i64 g, .int .i64 c] 3)) w2) w2 (.slice xa zs.length xc) (zs.map (Value.int .u8))) := hL
    have K2 : Chg no w w2 := (K.alloc _).then q2
    clear HN q1 q2 hL
    go_wp2
    go_ret
    have e := HL.out
    rw [HLen.out] at e ⊢
    exact ⟨xa, xc, _, rfl, e, K2⟩
  | false =>
    have hz : zs = List.replicate 12 0 := by
      rw [← HZ.out, nbs, if_neg (by simp [hm])]
    simp only [hm] at HM
    go_enter Try.func34, Try.ntmps34
    go_wp2_with fail
    refine (HM _).mono ?_
    rintro e w1 ⟨rfl, k1⟩
    have K : Chg no w w1 := ((Chg.refl no w).alloc _).then k1
    clear k1 HM
    go_wp2_with (at_make; refine wpList_make_full _ rfl _ _ 22 rfl w1.heap.size 5 i0 (.int .u8 0) 1 Try.underlying22 hi0 hz0 hz1 .i64 .i64 12 12 12 rfl rfl rfl rfl ?c1 ?c2 ?c3 ?_)
    case c1 => rw [hz2]; omega
    case c2 => unfold maxLen; omega
    case c3 => omega
    intro w2 hown hg
    have k2 : Chg no w1 w2 := (Chg.refl no w1).grown hg (by simp)
    have hL := Lies.of_owns (J := fun _ => True) hown (fun _ _ => trivial)
    have HL : Hid (Lies (fun _ => True) w2 (.slice (some ⟨w1.heap.size, 0, none⟩) 12 12) (zs.map (Value.int .u8))) := by
      rw [hz]
      rw [toList_madeCells_one] at hL
      have e : List.replicate 12 (Value.int .u8 0) = (List.replicate 12 (0 : Int)).map (Value.int .u8) := by simp
      rw [e] at hL
      exact hL
    clear hown hg hL hz
    go_wp2
    go_ret
    exact ⟨_, _, _, rfl, HL.out, K.then k2⟩

end Go.Proofs.Ytmchjnmmeankgaa.st
