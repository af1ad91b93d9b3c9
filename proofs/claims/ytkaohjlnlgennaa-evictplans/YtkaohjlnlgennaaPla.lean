/- The contract of Plan. -/
import Derived.Test.YtkaohjlnlgennaaPst
import Derived.Test.YtkaohjlnlgennaaByi
import Derived.Test.YtkaohjlnlgennaaTbl
import Derived.Deep.CutBlock
namespace Go.Proofs.Ytkaohjlnlgennaa.st
open Go.ChangeShapes Go.WideShapes Go.ChangeAt Go.RowKit Go.Proofs.Ytkaohjlnlgennaa.hp Go.Proofs.Ytkaohjlnlgennaa.tm Go.Proofs.Ytkaohjlnlgennaa.ev
set_option linter.unusedVariables false
set_option linter.unusedSimpArgs false

attribute [local go_sem] Oper.semAt_some

/-- How a place is handed to a round. -/
def enp {u : List Int} (x : Plc u) : Array Value := #[.int .i64 (x.val.1 : Int), .int .i64 x.val.2]

theorem backs (u : List Int) : Backs enp u (turns u) := ⟨turns_len u, fun k hk => by unfold enp; rw [turns_get u k hk]⟩

abbrev fz : Value := .agg #[.int .i64 0, .slice none 0 0]
theorem info46 : (Try.prog.info? 46).map (fun i => (i.zero, i.size, i.bytes)) = some (some fz, 2, 32) := by kernel_rfl

theorem uni_len (h : Int) (ls : List Int) : (uni h ls).length ≤ 127 := by
  unfold uni
  split
  · have := rise_length (wys h ls) (bks h).toNat
    have := bks_bounds h
    omega
  · simp

theorem made_fills (n : Nat) : (madeCells fz.cells (n * 2)).toList = (List.replicate n dFV).flatMap ff := by
  have hl : ((List.replicate n dFV).flatMap ff).length = n * 2 := by
    rw [flat_length lenf, List.length_replicate]
  apply List.ext_getElem
  · rw [hl, Array.length_toList, size_madeCells]
  · intro i h1 h2
    rw [hl] at h2
    have hq : i / 2 < (List.replicate n dFV).length := by rw [List.length_replicate]; omega
    have hg := flat_get lenf (List.replicate n dFV) (i / 2) (i % 2) (by omega) dFV (by rw [List.getElem?_eq_getElem hq]; simp)
    rw [show i / 2 * 2 + i % 2 = i by omega] at hg
    have hz : fz.cells.size = 2 := rfl
    have : (madeCells fz.cells (n * 2)).toList[i]? = (ff dFV)[i % 2]? := by
      simp only [madeCells, Array.toList_map, Array.toList_range, List.getElem?_map, List.getElem?_range h2, hz]
      have hm : i % 2 = 0 ∨ i % 2 = 1 := by omega
      rcases hm with e | e <;> simp only [Option.map_some, e] <;> rfl
    have e2 := this.trans hg.symm
    rw [List.getElem?_eq_getElem h1, List.getElem?_eq_getElem (by rw [hl]; exact h2)] at e2
    exact Option.some.inj e2

theorem mayP_of {h z : Int} {ls : List Int} {its : List (Int × Int)} (hm : mayE h z ls its = true) (hn : (ids its).Nodup) : mayP h z ls its := by
  unfold mayE okZ okI at hm
  simp only [Bool.and_eq_true, decide_eq_true_eq, List.all_eq_true] at hm
  exact ⟨hm.1.1.1, hm.1.1.2, hm.1.2, hm.2, hn⟩

theorem wp_then {P : Program} {cd : Code} {K : Act → World → Prop} {Q : Exit → Act → World → Prop} {a : Act} {w : World} (h : cd.wp P (Exit.then K (fun _ _ _ => False)) a w) : cd.wp P (Exit.then K Q) a w :=
  wp_mono h fun e a w hq => by
    cases e with
    | normal => exact hq
    | _ => exact hq.elim

set_option maxRecDepth 100000 in
set_option maxHeartbeats 8000000 in
theorem plan_some {J K : Nat → Prop} (w : World) (h z : Int) (v iv : Value) (ls : List Int) (its : List (Int × Int)) (hv : Lies J w v (ls.map (Value.int .i64))) (hi : Lie K w iv its.length (its.flatMap f2)) (hl : ls.length ≤ 100000) (hil : its.length ≤ 100000)
    (hm : mayE h z ls its = true) (hn : (ids its).Nodup) :
    Calls Try.prog 10 #[.int .i64 h, .int .i64 z, v, iv] w fun e w' => ∃ fv lv xs, e = .returned (.tuple #[fv, lv]) ∧ Fls w' fv xs ∧ abs xs = (uni h ls).map (fun b => (b, (planF h z ls its).1 b)) ∧ Lies (Old w') w' lv ((planF h z ls its).2.map (Value.int .i64)) ∧ Chg no w w' := by
  obtain ⟨i0, hi0, hz0, hz1, hz2⟩ := info_parts info46
  have HM : Hid (∀ W, Chg no w W → Calls Try.prog 26 #[.int .i64 h, .int .i64 z, v, iv] W fun e w' => e = .returned (.bool true) ∧ Chg no W w') := fun W k => by
    have := mayPlan_any W h z v iv ls its (hv.chg k (fun _ _ h => h)) (hi.same k) hl hil
    rw [hm] at this
    exact this
  have HB : Hid (∀ W, Chg no w W → Calls Try.prog 27 #[iv] W fun e w' => ∃ v' ds, e = .returned v' ∧ ds.Perm its ∧ (ids ds).Pairwise (· ≤ ·) ∧ NewR 35 2 f2 W ds v' w') := fun W k => byID_any iv its W (hi.same k) hil
  have HU : Hid (∀ W, Chg no w W → Calls Try.prog 20 #[.int .i64 h, v] W fun e w' => ∃ v', e = .returned v' ∧ New W (uni h ls) v' w') := fun W k => union_any W h v ls (hv.chg k (fun _ _ h => h)) hl
  clear hv hi
  refine callsIn_wide.1 (callsIn_of_wp_marks (n := 3) Try.func10 rfl trivial (wpIn_wide.2 ?_) rfl)
  simp only [Try.ntmps10, List.size_toArray, List.length_cons, List.length_nil, Nat.reduceAdd, Nat.reduceSub, Array.replicate_succ, Array.replicate_zero, List.push_toArray, List.append_toArray, List.nil_append, List.cons_append]
  have k1 : Chg no w ((w.alloc (.cells #[.int .i64 h] 3)).alloc (.cells #[.int .i64 z] 3)) := ((Chg.refl no w).alloc _).alloc _
  go_wp2_with fail
  refine (HM.out _ k1).mono ?_
  rintro e w1 ⟨rfl, c1⟩
  have b1 : w1.heap[w.heap.size]? = some (.cells #[.int .i64 h] 3 (0, 0)) := c1.heap (((Chg.refl no _).alloc _).heap (heap_alloc_new w _) (fun h => h)) (fun h => h)
  have b2 : w1.heap[w.heap.size + 1]? = some (.cells #[.int .i64 z] 3 (0, 0)) := by
    have := heap_alloc_new (w.alloc (.cells #[.int .i64 h] 3)) (.cells #[.int .i64 z] 3)
    simp only [World.size_alloc] at this
    exact c1.heap this (fun h => h)
  have s1 : w.heap.size + 2 ≤ w1.heap.size := by have := c1.size; simp at this; omega
  have K1 : Hid (Chg no w w1) := k1.then c1
  have HB1 : Hid (w1.heap[w.heap.size]? = some (.cells #[.int .i64 h] 3 (0, 0)) ∧ w1.heap[w.heap.size + 1]? = some (.cells #[.int .i64 z] 3 (0, 0))) := ⟨b1, b2⟩
  clear k1 c1 b1 b2 HM
  go_wp2_with fail
  refine (HB.out _ K1.out).mono ?_
  rintro e w2 ⟨v2, ds, rfl, dp, dsrt, N2⟩
  obtain ⟨a, c, rfl⟩ := N2.shape
  have hdl : ds.length = its.length := dp.length_eq
  have hdn : (ids ds).Nodup := (List.Perm.nodup_iff (dp.map _)).2 hn
  have HT : Hid (∀ W, Chg no w2 W → Calls Try.prog 28 #[.slice a ds.length c] W fun e w' => e = .returned (.bool false) ∧ Chg no W w') := fun W k => by
    have := anyTwice_any W (.slice a ds.length c) ds (N2.lie.same k) (by rw [hdl]; exact hil) dsrt
    rw [decide_eq_true hdn] at this
    exact this
  have K2 : Hid (Chg no w1 w2) := N2.2
  have HN2 : Hid (NewR 35 2 f2 w1 ds (.slice a ds.length c) w2) := N2
  obtain ⟨n, hnn⟩ : ∃ n, ds.length = n := ⟨_, rfl⟩
  have HDL : Hid (ds.length = n) := hnn
  rw [hnn] at HT HN2 ⊢
  have s2 := N2.2.size
  clear HB N2 hdl hnn
  go_wp2_with fail
  refine (HT.out _ ((Chg.refl no w2).alloc _)).mono ?_
  rintro e w3 ⟨rfl, c3⟩
  have b3 : w3.heap[w2.heap.size]? = some (.cells #[.slice a n c] 23 (0, 0)) := c3.heap (heap_alloc_new w2 _) (fun h => h)
  have K3 : Hid (Chg no w2 w3) := ((Chg.refl no w2).alloc _).then c3
  have s3 : w2.heap.size + 1 ≤ w3.heap.size := by have := c3.size; simp at this; omega
  have HB3 : Hid (w3.heap[w2.heap.size]? = some (.cells #[.slice a n c] 23 (0, 0))) := b3
  have e3 : w3.cell? ⟨w.heap.size, 0, none⟩ = some (.int .i64 h) := (row_cell (xs := [.int .i64 h]) (K3.out.heap (K2.out.heap HB1.out.1 (fun h => h)) (fun h => h)) 0 (.int .i64 h) rfl).1
  clear c3 b3 HT
  go_wp2_with fail
  refine (HU.out _ ((K1.out.then K2.out).then K3.out)).mono ?_
  rintro e w4 ⟨uv, rfl, NU⟩
  obtain ⟨au, cu, rfl⟩ := NU.shape
  obtain ⟨u, hu⟩ : ∃ u, uni h ls = u := ⟨_, rfl⟩
  have HUU : Hid (uni h ls = u) := hu
  rw [hu] at NU ⊢
  obtain ⟨m, hm'⟩ : ∃ m, u.length = m := ⟨_, rfl⟩
  have HML : Hid (u.length = m) := hm'
  have hml : m ≤ 127 := by
    rw [← hm', ← hu]
    exact uni_len h ls
  have s4 := NU.2.size
  have HNU : Hid (New w3 u (.slice au u.length cu) w4) := NU
  rw [hm'] at HNU ⊢
  have hmi : (m : Int) ≤ 127 := by omega
  clear HU NU hu hm'
  go_wp2_with (at_make; refine wpList_make_full _ rfl _ _ 26 rfl w4.heap.size 46 i0 fz 2 Try.underlying26 hi0 hz0 hz1 .i64 .i64 m m m rfl rfl rfl rfl ?c1 ?c2 ?c3 ?_)
  case c1 => rw [hz2]; omega
  case c2 => unfold maxLen; omega
  case c3 => omega
  intro w5 hown hg
  have b5 : w5.heap[w4.heap.size]? = some (.cells ((List.replicate m dFV).flatMap ff).toArray 46 (0, 0)) := by
    obtain ⟨_, _, cur, q1, q2, q3, q4, q5⟩ := owns_open (owns_base hown (Nat.zero_le _))
    rw [q1]
    congr 2
    rw [List.take_of_length_le (by omega)] at q5
    rw [q5.trans (made_fills m)]
  have K5 : Hid (Chg no w4 w5) := (Chg.refl no w4).grown hg (by simp)
  have s5 : w4.heap.size + 1 ≤ w5.heap.size := by have := (hown.lt w4.heap.size rfl).2; omega
  have HB5 : Hid (w5.heap[w4.heap.size]? = some (.cells ((List.replicate m dFV).flatMap ff).toArray 46 (0, 0))) := b5
  clear hown hg b5
  have HBW : Hid (∀ W, Calls Try.prog 29 #[.slice au m cu] W fun e w' => e = .returned (.func (.func 51) #[] #[.pointer (some ⟨W.heap.size, 0, none⟩)]) ∧ w' = W.alloc (.cells #[.slice au m cu] 22)) := fun W => (callsIn_wide (n := 1)).1 (backward_in 1 au m cu W)
  go_wp2_with fail
  refine (HBW.out _).mono ?_
  rintro e w6 ⟨rfl, rfl⟩
  clear HBW
  go_wp2_with fail
  obtain ⟨WL, hWL⟩ : ∃ W, (w5.alloc (.cells #[.slice (some ⟨w4.heap.size, 0, none⟩) m m] 26)).alloc (.cells #[.slice au m cu] 22) = W := ⟨_, rfl⟩
  have sL : WL.heap.size = w5.heap.size + 2 := by rw [← hWL]; simp
  have kL : Chg no w5 WL := by rw [← hWL]; exact ((Chg.refl no w5).alloc _).alloc _
  have bF : WL.heap[w5.heap.size]? = some (.cells #[.slice (some ⟨w4.heap.size, 0, none⟩) m m] 26 (0, 0)) := by
    rw [← hWL]
    exact ((Chg.refl no _).alloc _).heap (heap_alloc_new w5 _) (fun h => h)
  have bS : WL.cell? ⟨w5.heap.size + 1, 0, none⟩ = some (.slice au m cu) := by
    have := heap_alloc_new (w5.alloc (.cells #[.slice (some ⟨w4.heap.size, 0, none⟩) m m] 26)) (.cells #[.slice au m cu] 22)
    rw [hWL] at this
    simp only [World.size_alloc] at this
    exact (row_cell (xs := [.slice au m cu]) this 0 (.slice au m cu) rfl).1
  have kw5 : Chg no w w5 := (((K1.out.then K2.out).then K3.out).then HNU.out.2).then K5.out
  -- the rows
  have hRl : (ids ds).length = n := by simp [ids, HDL.out]
  have hdsm : (ids ds).map (itm (leafOf its)) = ds := by
    unfold ids
    rw [List.map_map]
    refine (List.map_congr_left fun i hi => ?_).trans (List.map_id ds)
    have := leafOf_item its hn i ((dp.mem_iff).1 hi)
    exact Prod.ext rfl this
  have hsort : ids ds = sortI (ids its) := rising_same _ _ (by
      refine List.Pairwise.imp_of_mem ?_ (dsrt.and hdn)
      intro x y _ _ hxy
      have := hxy.1
      have := hxy.2
      omega) (sortI_rising _ hn) fun x => by rw [sortI_mem]; unfold ids; simp only [List.mem_map, dp.mem_iff]
  obtain ⟨d, hd⟩ : ∃ d : Ad, d = ⟨w.heap.size, w.heap.size + 1, w2.heap.size, w5.heap.size, w4.heap.size⟩ := ⟨_, rfl⟩
  have hap : ∀ k, Blk a k → w1.heap.size ≤ k ∧ k < w2.heap.size := fun k hk => HN2.out.1.lt k (blk_own.2 hk)
  have hup : ∀ k, Blk au k → w3.heap.size ≤ k ∧ k < w4.heap.size := fun k hk => HNU.out.1.lt k (blk_own.2 hk)
  have HAD : Hid (Ads w WL.heap.size d a) := by
    subst hd
    refine ⟨⟨?_, ?_, ?_, ?_, ?_⟩, ⟨?_, ?_, ?_, ?_, ?_⟩, ⟨?_, ?_, ?_, ?_, ?_, ?_, ?_⟩, fun k hk => ?_⟩
    all_goals (first | (have := hap k hk; simp only; omega) | (simp only; omega))
  have HP0 : Hid (Pst w WL.heap.size d a c h z (leafOf its) (List.replicate m dFV) (ids ds) WL) := by
    subst hd
    have q1 : Chg no w1 WL := (((K2.out.then K3.out).then HNU.out.2).then K5.out).then kL
    have q2 : Chg no w2 WL := ((K3.out.then HNU.out.2).then K5.out).then kL
    have q3 : Chg no w3 WL := (HNU.out.2.then K5.out).then kL
    refine ⟨q1.heap HB1.out.1 (fun h => h), q1.heap HB1.out.2 (fun h => h), ?_, ?_, kL.heap HB5.out (fun h => h), ?_, ?_, kw5.then kL⟩
    · rw [hRl]
      exact q3.heap HB3.out (fun h => h)
    · rw [List.length_replicate]
      exact bF
    · rw [hRl, hdsm]
      have := (HN2.out.same q2).1
      rw [HDL.out] at this
      exact owns_base this (Nat.zero_le _)
    · intro x hx
      rw [List.eq_of_mem_replicate hx]
      exact World.ownsRow_nil _ _ _ _
  have HUC : Hid (∀ j, j < m → ∃ y, au = some y ∧ Blk au y.block ∧ WL.cell? (y.add j) = some (.int .i64 (u.getD j 0))) := fun j hj => by
    have q4 : Chg no w4 WL := K5.out.then kL
    obtain ⟨g, e, _, hc, _⟩ := owns_at (k := j) (u := .int .i64 (u.getD j 0)) (by have := HNU.out.1; rw [HML.out] at this; exact this) (by rw [List.getElem?_map, List.getD_eq_getElem?_getD, List.getElem?_eq_getElem (by rw [HML.out]; exact hj)]; rfl)
    refine ⟨_, e, by rw [e]; exact blk_some.2 rfl, ?_⟩
    rw [Addr.add_lit, Nat.zero_add]
    exact q4.cell hc (fun h => h)
  have HPB : Hid (∀ b, (b = w5.heap.size + 1 ∨ Blk au b) → b < WL.heap.size) := fun b hb => by
    rcases hb with e | e
    · omega
    · have := hup b e
      omega
  have HPN : Hid (∀ b, (b = w5.heap.size + 1 ∨ Blk au b) → ¬ (b = d.g ∨ b = d.l ∨ Blk a b)) := fun b hb hc => by
    subst hd
    simp only at hc
    rcases hb with e | e
    · rcases hc with e2 | e2 | e2
      · omega
      · omega
      · have := hap b e2
        omega
    · have := hup b e
      rcases hc with e2 | e2 | e2
      · omega
      · omega
      · have := hap b e2
        omega
  have HAE : Hid (d = ⟨w.heap.size, w.heap.size + 1, w2.heap.size, w5.heap.size, w4.heap.size⟩) := hd
  have HBS : Hid (WL.cell? ⟨w5.heap.size + 1, 0, none⟩ = some (.slice au m cu)) := bS
  rw [hWL]
  clear hWL kL bF bS hap hup hRl hdsm hd K1 HB1 K2 HN2 K3 HB3 HNU K5 HB5
  obtain ⟨s0, hs0⟩ : ∃ s0 : (Int → List Int) × List Int, s0 = (fun _ => [], ids ds) := ⟨_, rfl⟩
  obtain ⟨Sf, hSf⟩ : ∃ Sf : List (Plc u) → (Int → List Int) × List Int, Sf = fun pre => fill (onP h its) z.toNat (pre.map fun x => x.val.2) s0 := ⟨_, rfl⟩
  refine (wpIn_wide (n := 3)).1 ?_
  refine wpIn_rangeFunc_ownG (F := Fence.wide) rfl (by omega) (gf := 51) (lb := #[.pointer (some ⟨w5.heap.size + 1, 0, none⟩)]) rfl trivial (enters_of Try.func51 (by kernel_rfl) rfl)
    (bw_stops (α := Plc u) (encs := enp) (ys := turns u) 2 (by omega) (w5.heap.size + 1) m cu au u HML.out (by omega) (backs u) (fun b => b = w5.heap.size + 1 ∨ Blk au b) (.inl rfl) WL HPB.out HBS.out (fun j hj => by obtain ⟨y, e, h1, h2⟩ := HUC.out j hj; exact ⟨y, e, .inr h1, h2⟩))
    (fun h k => h.trans k) (fun W l o o' hl _ _ _ b hb => World.putObj_heap_other (by have := HPB.out b hb; omega)) (Below.refl _ _) (fun _ => rfl)
    (fun pre W => ∃ xs, Pst w WL.heap.size d a c h z (leafOf its) xs (Sf pre).2 W ∧ abs xs = tbl u (Sf pre).1 (pre.map fun x => x.val.1) ∧ WL.heap.size ≤ W.heap.size)
    (fun _ _ _ => False) ?hI (fun _ _ _ _ _ hs _ _ => hs) ?h0
    (fun x => { tmps := #[.int .i64 h, .int .i64 z, v, iv, .pointer (some ⟨w.heap.size, 0, none⟩), .pointer (some ⟨w.heap.size + 1, 0, none⟩), undef, undef, .slice none 0 0, .slice none 0 0, .pointer (some ⟨w2.heap.size, 0, none⟩), .slice au m cu, .pointer (some ⟨w5.heap.size, 0, none⟩), .int .i64 (x.val.1 : Int), .int .i64 x.val.2, .int .i64 h, .int .i64 z, v, iv, .bool true, .bool false, iv, .slice a n c, .slice a n c, .bool false, .int .i64 h, v, .slice au m cu, .slice au m cu, .int .i64 (m : Int), .slice (some ⟨w4.heap.size, 0, none⟩) m m, .slice au m cu, .func (.func 51) #[] #[.pointer (some ⟨w5.heap.size + 1, 0, none⟩)], .int .i64 (x.val.1 : Int), .int .i64 x.val.2, undef, undef, undef, undef, undef, undef, undef, undef, undef, undef, undef, undef, undef, undef, undef, undef, undef, undef, undef, undef], defers := [] })
    ?assign ?body ?done ?stop
  case hI =>
    rintro pre A B row ⟨xs, p1, p2, p3⟩ hg hr
    exact ⟨xs, p1.own (by have := kw5.size; omega) hg hr, p2, Nat.le_trans p3 hg.size⟩
  case h0 =>
    refine ⟨List.replicate m dFV, ?_, ?_, Nat.le_refl _⟩
    · rw [hSf, hs0]
      exact HP0.out
    · rw [hSf, hs0]
      show abs (List.replicate m dFV) = tbl u (fun _ => []) []
      rw [tbl_none, HML.out]
      simp [abs, FV.fl, dFV]
  case assign =>
    intro l x W K hK
    dsimp only [enp]
    gi_wp2
    exact hK
  case body =>
    rintro l pre ⟨⟨i, b⟩, hi, hb⟩ W ⟨xs, P, hx, hsz⟩ hlen
    simp only at hi hb
    have hxl : xs.length = m := by rw [← abs_len, hx, tbl_len, HML.out]
    obtain ⟨R, hR⟩ : ∃ R, (Sf pre).2 = R := ⟨_, rfl⟩
    rw [hR] at P
    have HP : Hid (Pst w WL.heap.size d a c h z (leafOf its) xs R W) := P
    have HR : Hid ((Sf pre).2 = R) := hR
    rw [HML.out] at hi
    have e1 : W.cell? ⟨w5.heap.size, 0, none⟩ = some (.slice (some ⟨w4.heap.size, 0, none⟩) m m) := by
      have := P.fb
      rw [hxl, HAE.out] at this
      exact (row_cell (xs := [.slice (some ⟨w4.heap.size, 0, none⟩) m m]) this 0 _ rfl).1
    have hrow : W.heap[w4.heap.size]? = some (.cells (xs.flatMap ff).toArray 46 (0, 0)) := by
      have := P.row
      rw [HAE.out] at this
      exact this
    have hxi : xs[i]? = some (xs.getD i dFV) := by rw [List.getD_eq_getElem?_getD, List.getElem?_eq_getElem (by rw [hxl]; exact hi)]; rfl
    obtain ⟨e2, e3⟩ := row_cell hrow (i * 2) _ (flat_get lenf xs i 0 (by omega) _ hxi)
    obtain ⟨e4, e5⟩ := row_cell hrow (i * 2 + 1) _ (flat_get lenf xs i 1 (by omega) _ hxi)
    have hii : (i : Int) < m := by omega
    have lt4 : w4.heap.size < W.heap.size := lt_of_block hrow
    clear hrow hxi P hR hlen
    gi_wp2
    obtain ⟨nR, hnR⟩ : ∃ nR, R.length = nR := ⟨_, rfl⟩
    have HNR : Hid (R.length = nR) := hnR
    have hRn : nR ≤ 100000 := by
      have e9 : (fill (onP h its) z.toNat (pre.map fun x => x.val.2) s0).2.Sublist s0.2 := fill_sub _ _
      have e8 : R = (fill (onP h its) z.toNat (pre.map fun x => x.val.2) s0).2 := by rw [← HR.out, hSf]
      have := e9.length_le
      rw [← e8, hnR, hs0] at this
      simp only [ids, List.length_map] at this
      have := HDL.out
      have := dp.length_eq
      omega
    obtain ⟨WB, hWB⟩ : ∃ W', (W.setCell ⟨w4.heap.size, i * 2, none⟩ (.int .i64 b)).drew = W' := ⟨_, rfl⟩
    have kWB : Chg (fun k => k = d.g ∨ Blk a k) W WB := by
      rw [← hWB, HAE.out]
      exact ((Chg.refl _ W).setCell _ _ (.inl (.inl rfl))).drew
    have HWB : Hid (WB = (W.setCell ⟨d.g, i * 2, none⟩ (.int .i64 b)).drewN 1) := by
      show _ = _
      rw [← hWB, HAE.out]
      rfl
    have HS : Hid (∀ W', Chg (fun k => k = d.g ∨ Blk a k) W W' → W'.cell? ⟨w5.heap.size, 0, none⟩ = some (.slice (some ⟨w4.heap.size, 0, none⟩) m m) ∧ W'.cell? ⟨w.heap.size, 0, none⟩ = some (.int .i64 h) ∧ W'.cell? ⟨w.heap.size + 1, 0, none⟩ = some (.int .i64 z) ∧ W'.cell? ⟨w2.heap.size, 0, none⟩ = some (.slice a nR c)) := by
      intro W' k
      obtain ⟨n1, n2, n3, n4, n5, n6, n7⟩ := HAD.out.ne
      have hbb := HAD.out.bl
      have P := HP.out
      have q1 := k.heap P.hb (fun e => e.elim n2 fun e => (hbb _ e).2.2.1 rfl)
      have q2 := k.heap P.zb (fun e => e.elim n4 fun e => (hbb _ e).2.2.2.1 rfl)
      have q3 := k.heap P.lb (fun e => e.elim n7 fun e => (hbb _ e).2.2.2.2.1 rfl)
      have q4 := k.heap P.fb (fun e => e.elim n6 fun e => (hbb _ e).2.2.2.2.2.1 rfl)
      rw [hxl] at q4
      rw [hnR] at q3
      rw [HAE.out] at q1 q2 q3 q4
      exact ⟨(row_cell (xs := [_]) q4 0 _ rfl).1, (row_cell (xs := [_]) q1 0 _ rfl).1, (row_cell (xs := [_]) q2 0 _ rfl).1, (row_cell (xs := [_]) q3 0 _ rfl).1⟩
    have hS0 := HS.out WB kWB
    have HFI : Hid (Calls Try.prog 30 #[.int .i64 h, .int .i64 z, .int .i64 b, .slice a nR c] WB fun e w' => ∃ iv, e = .returned (.tuple #[iv, .slice a (pick (fun x => onI h b (leafOf its x)) z.toNat R).2.length c]) ∧
      w'.ownsRow WB.heap.size 3 1 iv (pick (fun x => onI h b (leafOf its x)) z.toNat R).1.length ((pick (fun x => onI h b (leafOf its x)) z.toNat R).1.map (Value.int .i64)) ∧ Chg (Blk a) WB w' ∧
      w'.ownsRow 0 35 2 (.slice a (pick (fun x => onI h b (leafOf its x)) z.toNat R).2.length c) (pick (fun x => onI h b (leafOf its x)) z.toNat R).2.length (((pick (fun x => onI h b (leafOf its x)) z.toNat R).2.map (itm (leafOf its))).flatMap f2)) := by
      refine fill_any WB h z b a c nR R (leafOf its) hnR hRn ?_
      have kg : Chg (fun k => k = d.g) W WB := by
        rw [← hWB, HAE.out]
        have c0 : Chg (fun k => k = w4.heap.size) W (W.setCell ⟨w4.heap.size, i * 2, none⟩ (.int .i64 b)) := (Chg.refl _ W).setCell _ _ (.inl rfl)
        exact c0.drew
      rw [← hnR]
      exact kg.owns HP.out.lef fun k hk e => (HAD.out.bl k (blk_own.1 hk)).2.2.2.2.2.2 e
    refine las.start_round (fun W' => W'.cell? ⟨w5.heap.size, 0, none⟩ = some (.slice (some ⟨w4.heap.size, 0, none⟩) m m) ∧ W'.cell? ⟨w.heap.size, 0, none⟩ = some (.int .i64 h) ∧ W'.cell? ⟨w.heap.size + 1, 0, none⟩ = some (.int .i64 z) ∧ W'.cell? ⟨w2.heap.size, 0, none⟩ = some (.slice a nR c)) 13 (by kernel_rfl) (by kernel_rfl) (fun ⟨_, _, hh⟩ => hh) ?_
    rw [hWB]
    refine las.take (i := 0) 14 ?_ rfl (by kernel_rfl) (by kernel_rfl) (by kernel_rfl) (by kernel_rfl) (by kernel_rfl) (fun _ _ _ h => h) (by rfl) ?_ hS0 ?_
    rotate_left
    · intro wS hSw
      try dsimp only at hSw
      first | (go_simp; done) | (go_simp; rfl)
    simp only [Act.put, List.setIfInBounds_toArray, List.set_cons_zero, List.set_cons_succ]
    refine las.take (i := 1) 14 ?_ rfl (by kernel_rfl) (by kernel_rfl) (by kernel_rfl) (by kernel_rfl) (by kernel_rfl) (fun _ _ _ h => h) (by rfl) ?_ hS0 ?_
    rotate_left
    · intro wS hSw
      try dsimp only at hSw
      first | (go_simp; done) | (go_simp; rfl)
    simp only [Act.put, List.setIfInBounds_toArray, List.set_cons_zero, List.set_cons_succ]
    refine las.take (i := 2) 14 ?_ rfl (by kernel_rfl) (by kernel_rfl) (by kernel_rfl) (by kernel_rfl) (by kernel_rfl) (fun _ _ _ h => h) (by rfl) ?_ hS0 ?_
    rotate_left
    · intro wS hSw
      try dsimp only at hSw
      first | (go_simp; done) | (go_simp; rfl)
    simp only [Act.put, List.setIfInBounds_toArray, List.set_cons_zero, List.set_cons_succ]
    refine las.take (i := 3) 14 ?_ rfl (by kernel_rfl) (by kernel_rfl) (by kernel_rfl) (by kernel_rfl) (by kernel_rfl) (fun _ _ _ h => h) (by rfl) ?_ hS0 ?_
    rotate_left
    · intro wS hSw
      try dsimp only at hSw
      first | (go_simp; done) | (go_simp; rfl)
    simp only [Act.put, List.setIfInBounds_toArray, List.set_cons_zero, List.set_cons_succ]
    refine las.take (i := 4) 14 ?_ rfl (by kernel_rfl) (by kernel_rfl) (by kernel_rfl) (by kernel_rfl) (by kernel_rfl) (fun _ _ _ h => h) (by rfl) ?_ hS0 ?_
    rotate_left
    · intro wS hSw
      try dsimp only at hSw
      first | (go_simp; done) | (go_simp; rfl)
    simp only [Act.put, List.setIfInBounds_toArray, List.set_cons_zero, List.set_cons_succ]
    refine las.take (i := 5) 14 ?_ rfl (by kernel_rfl) (by kernel_rfl) (by kernel_rfl) (by kernel_rfl) (by kernel_rfl) (fun _ _ _ h => h) (by rfl) ?_ hS0 ?_
    rotate_left
    · intro wS hSw
      try dsimp only at hSw
      first | (go_simp; done) | (go_simp; rfl)
    simp only [Act.put, List.setIfInBounds_toArray, List.set_cons_zero, List.set_cons_succ]
    refine las.each (rs := [6]) (by kernel_rfl) rfl ?_
    refine las.Each.cons rfl (fun K hK => ?_) las.Each.nil
    obtain ⟨PT, hPT⟩ : ∃ PT, pick (fun x => onI h b (leafOf its x)) z.toNat R = PT := ⟨_, rfl⟩
    have HPT : Hid (pick (fun x => onI h b (leafOf its x)) z.toNat R = PT) := hPT
    rw [hPT] at HFI
    clear hPT
    refine step_call rfl 30 _ (by go_simp) (HFI.out) ?_
    rintro e w9 ⟨iv9, rfl, o1, o2, o3⟩
    refine ⟨_, rfl, ?_⟩
    obtain ⟨a9, c9, rfl⟩ := owns_shape o1
    have k9 : Chg (fun k => k = d.g ∨ Blk a k) W w9 := kWB.then (o2.mono fun k e => .inl (.inr e))
    have HO : Hid (w9.ownsRow WB.heap.size 3 1 (.slice a9 PT.1.length c9) PT.1.length (PT.1.map (Value.int .i64)) ∧ Chg (Blk a) WB w9 ∧ w9.ownsRow 0 35 2 (.slice a PT.2.length c) PT.2.length ((PT.2.map (itm (leafOf its))).flatMap f2)) := ⟨o1, o2, o3⟩
    have hS9 := HS.out w9 k9
    -- the entry's second cell
    have hx9 : w9.cell? ⟨w4.heap.size, i * 2 + 1, none⟩ = some (xs.getD i dFV).v ∧ w9.frozen? ⟨w4.heap.size, i * 2 + 1, none⟩ = false := by
      have r0 := row_set HP.out.row (i * 2) (.int .i64 b)
      have r1 : WB.heap[d.g]? = some (.cells ((xs.flatMap ff).set (i * 2) (.int .i64 b)).toArray 46 (0, 0)) := by
        rw [HWB.out]
        exact r0
      have r2 := o2.heap r1 (fun e => (HAD.out.bl _ e).2.2.2.2.2.2 rfl)
      rw [HAE.out] at r2
      have hxi : xs[i]? = some (xs.getD i dFV) := by rw [List.getD_eq_getElem?_getD, List.getElem?_eq_getElem (by rw [hxl]; exact hi)]; rfl
      refine row_cell r2 (i * 2 + 1) _ ?_
      rw [List.getElem?_set_ne (by omega)]
      exact flat_get lenf xs i 1 (by omega) _ hxi
    obtain ⟨x91, x92⟩ := hx9
    obtain ⟨vx, hvx⟩ : ∃ vx, (xs.getD i dFV).v = vx := ⟨_, rfl⟩
    rw [hvx] at x91
    refine hK.out _ _ hS9 ?_
    simp only [Act.put, List.setIfInBounds_toArray, List.set_cons_zero, List.set_cons_succ]
    clear hK K o1 o2 o3 hvx HFI
    refine las.take (i := 7) 14 ?_ rfl (by kernel_rfl) (by kernel_rfl) (by kernel_rfl) (by kernel_rfl) (by kernel_rfl) (fun _ _ _ h => h) (by rfl) ?_ hS9 ?_
    rotate_left
    · intro wS hSw
      try dsimp only at hSw
      first | (go_simp; done) | (go_simp; rfl)
    simp only [Act.put, List.setIfInBounds_toArray, List.set_cons_zero, List.set_cons_succ]
    refine las.take (i := 8) 14 ?_ rfl (by kernel_rfl) (by kernel_rfl) (by kernel_rfl) (by kernel_rfl) (by kernel_rfl) (fun _ _ _ h => h) (by rfl) ?_ hS9 ?_
    rotate_left
    · intro wS hSw
      try dsimp only at hSw
      first | (go_simp; done) | (go_simp; rfl)
    simp only [Act.put, List.setIfInBounds_toArray, List.set_cons_zero, List.set_cons_succ]
    refine las.take (i := 9) 14 ?_ rfl (by kernel_rfl) (by kernel_rfl) (by kernel_rfl) (by kernel_rfl) (by kernel_rfl) (fun _ _ _ h => h) (by rfl) ?_ hS9 ?_
    rotate_left
    · intro wS hSw
      try dsimp only at hSw
      first | (go_simp; done) | (go_simp; rfl)
    simp only [Act.put, List.setIfInBounds_toArray, List.set_cons_zero, List.set_cons_succ]
    refine las.take (i := 10) 14 ?_ rfl (by kernel_rfl) (by kernel_rfl) (by kernel_rfl) (by kernel_rfl) (by kernel_rfl) (fun _ _ _ h => h) (by rfl) ?_ hS9 ?_
    rotate_left
    · intro wS hSw
      try dsimp only at hSw
      first | (go_simp; done) | (go_simp; rfl)
    simp only [Act.put, List.setIfInBounds_toArray, List.set_cons_zero, List.set_cons_succ]
    refine las.take (i := 11) 14 ?_ rfl (by kernel_rfl) (by kernel_rfl) (by kernel_rfl) (by kernel_rfl) (by kernel_rfl) (fun _ _ _ h => h) (by rfl) ?_ hS9 ?_
    rotate_left
    · intro wS hSw
      try dsimp only at hSw
      first | (go_simp; done) | (go_simp; rfl)
    simp only [Act.put, List.setIfInBounds_toArray, List.set_cons_zero, List.set_cons_succ]
    refine las.each (rs := [12]) (by kernel_rfl) rfl ?_
    refine las.Each.cons rfl (fun K hK => ?_) las.Each.nil
    go_simp
    have kA : Chg (fun k => k = d.g ∨ Blk a k) W (w9.setCell ⟨w4.heap.size, i * 2 + 1, none⟩ (.slice a9 PT.1.length c9)) := k9.setCell _ _ (.inl (.inl (by rw [HAE.out])))
    have hSA := HS.out _ kA
    refine hK.out _ _ hSA ?_
    try simp only [Act.put, List.setIfInBounds_toArray, List.set_cons_zero, List.set_cons_succ]
    clear hK K
    have f9 : (w9.setCell ⟨w4.heap.size, i * 2 + 1, none⟩ (.slice a9 PT.1.length c9)).frozen? ⟨w2.heap.size, 0, none⟩ = false := by
      obtain ⟨n1, n2, n3, n4, n5, n6, n7⟩ := HAD.out.ne
      have q3 := kA.heap HP.out.lb (fun e => e.elim n7 fun e => (HAD.out.bl _ e).2.2.2.2.1 rfl)
      rw [HAE.out] at q3
      exact (row_cell (xs := [_]) q3 0 _ rfl).2
    refine las.each (rs := [13]) (by kernel_rfl) rfl ?_
    refine las.Each.last rfl (by kernel_rfl) (fun K hK => ?_)
    go_simp
    refine hK.out _ _ ?_
    try simp only [Act.put, List.setIfInBounds_toArray, List.set_cons_zero, List.set_cons_succ]
    clear hK K
    refine las.done (by kernel_rfl) ?_ _
    have ew : (w9.setCell ⟨w4.heap.size, i * 2 + 1, none⟩ (.slice a9 PT.1.length c9)).setCell ⟨w2.heap.size, 0, none⟩ (.slice a PT.2.length c) = (w9.setCell ⟨d.g, i * 2 + 1, none⟩ (.slice a9 PT.1.length c9)).setCell ⟨d.l, 0, none⟩ (.slice a PT.2.length c) := by rw [HAE.out]
    rw [ew]
    obtain ⟨S1, S2⟩ := HP.out.step HAD.out hsz i b (by rw [hxl]; exact hi) rfl 1 HWB.out HO.out.1 HO.out.2.1 HO.out.2.2
    have hSn : Sf (pre ++ [⟨(i, b), by rw [HML.out]; exact hi, hb⟩]) = (fun c => if c = b then PT.1 else (Sf pre).1 c, PT.2) := by
      have e9 : Sf pre = fill (onP h its) z.toNat (pre.map fun x => x.val.2) s0 := by rw [hSf]
      have e8 : pick (onP h its b) z.toNat (Sf pre).2 = PT := by
        rw [HR.out]
        exact HPT.out
      have e7 : ∀ x : Plc u, Sf (pre ++ [x]) = fill (onP h its) z.toNat (pre.map (fun x => x.val.2) ++ [x.val.2]) s0 := fun x => by
        rw [hSf]
        show fill (onP h its) z.toNat ((pre ++ [x]).map fun x : Plc u => x.val.2) s0 = _
        rw [List.map_append, List.map_cons, List.map_nil]
      rw [e7, fill_snoc, ← e9]
      unfold Go.Proofs.Ytkaohjlnlgennaa.ev.step
      rw [e8]
    refine ⟨⟨S2.size, fun k o hk hko _ => S2.heap hko fun e => ?_⟩, Kq.of_chg S2 fun b hb => ⟨HPN.out b hb, by have := HPB.out b hb; omega⟩, xs.set i ⟨b, .slice a9 PT.1.length c9, PT.1⟩, ?_, ?_, Nat.le_trans hsz S2.size⟩
    · have := HAD.out.hi
      rcases e with e | e | e
      · omega
      · omega
      · have := (HAD.out.bl k e).2.1
        omega
    · rw [hSn]
      exact S1
    · rw [hSn]
      unfold abs at hx ⊢
      rw [List.map_set, hx, List.map_append]
      exact tbl_set (by rw [← HUU.out]; exact rising_nodup (uni_rising h ls)) _ _ i (by rw [HML.out]; exact hi) b hb PT.1
  case done =>
    rintro D ys W hD rfl ⟨xs, P, hx, hsz⟩ hK
    go_wp2_with fail
    have hxl : xs.length = m := by rw [← abs_len, hx, tbl_len, HML.out]
    obtain ⟨R, hR⟩ : ∃ R, (Sf (turns u)).2 = R := ⟨_, rfl⟩
    rw [hR] at P
    have HR : Hid ((Sf (turns u)).2 = R) := hR
    obtain ⟨nR, hnR⟩ : ∃ nR, R.length = nR := ⟨_, rfl⟩
    have hRn : nR ≤ 100000 := by
      have e9 : (fill (onP h its) z.toNat ((turns u).map fun x => x.val.2) s0).2.Sublist s0.2 := fill_sub _ _
      have e8 : R = (fill (onP h its) z.toNat ((turns u).map fun x => x.val.2) s0).2 := by rw [← HR.out, hSf]
      have := e9.length_le
      rw [← e8, hnR, hs0] at this
      simp only [ids, List.length_map] at this
      have := HDL.out
      have := dp.length_eq
      omega
    have HP : Hid (Pst w WL.heap.size d a c h z (leafOf its) xs R W) := P
    have HS : Hid (∀ W', Chg no W W' → W'.cell? ⟨w5.heap.size, 0, none⟩ = some (.slice (some ⟨w4.heap.size, 0, none⟩) m m) ∧ W'.cell? ⟨w2.heap.size, 0, none⟩ = some (.slice a nR c)) := by
      intro W' k
      have q3 := k.heap HP.out.lb (fun h => h)
      have q4 := k.heap HP.out.fb (fun h => h)
      rw [hxl] at q4
      rw [hnR] at q3
      rw [HAE.out] at q3 q4
      exact ⟨(row_cell (xs := [_]) q4 0 _ rfl).1, (row_cell (xs := [_]) q3 0 _ rfl).1⟩
    have HID : Hid (∀ W', Chg no W W' → Calls Try.prog 31 #[.slice a nR c] W' fun e w' => ∃ v', e = .returned v' ∧ New W' R v' w') := fun W' k => by
      have hle : Lie (fun _ => True) W' (.slice a nR c) (R.map (itm (leafOf its))).length ((R.map (itm (leafOf its))).flatMap f2) := by
        have := Lie.of_owns (J := fun _ => True) (HP.out.lef) (fun _ _ => trivial)
        rw [hnR] at this
        rw [List.length_map, hnR]
        exact this.same k
      have := idsOf_any W' (.slice a nR c) (R.map (itm (leafOf its))) hle (by rw [List.length_map, hnR]; exact hRn)
      have e : ids (R.map (itm (leafOf its))) = R := by unfold ids; rw [List.map_map]; exact List.map_id R
      rw [e] at this
      exact this
    have HX : Hid (abs xs = tbl u (Sf (turns u)).1 ((turns u).map fun x => x.val.1)) := hx
    clear P hR hx
    refine wp_then ?_
    refine las.start (fun W' => W'.cell? ⟨w5.heap.size, 0, none⟩ = some (.slice (some ⟨w4.heap.size, 0, none⟩) m m) ∧ W'.cell? ⟨w2.heap.size, 0, none⟩ = some (.slice a nR c)) 4 (by kernel_rfl) ?_
    obtain ⟨WD, hWD⟩ : ∃ W', W.drew = W' := ⟨_, rfl⟩
    have kD : Chg no W WD := by rw [← hWD]; exact (Chg.refl no W).drew
    have hKD : WD.heap[D]? = some (.deferred (some [])) := by rw [← hWD]; exact hK
    rw [hWD]
    have hS0 := HS.out WD kD
    refine las.take (i := 0) 14 ?_ rfl (by kernel_rfl) (by kernel_rfl) (by kernel_rfl) (by kernel_rfl) (by kernel_rfl) (fun _ _ _ h => h) (by rfl) ?_ hS0 ?_
    rotate_left
    · intro wS hSw
      try dsimp only at hSw
      first | (go_simp; done) | (go_simp; rfl)
    simp only [Act.put, List.setIfInBounds_toArray, List.set_cons_zero, List.set_cons_succ]
    refine las.take (i := 1) 14 ?_ rfl (by kernel_rfl) (by kernel_rfl) (by kernel_rfl) (by kernel_rfl) (by kernel_rfl) (fun _ _ _ h => h) (by rfl) ?_ hS0 ?_
    rotate_left
    · intro wS hSw
      try dsimp only at hSw
      first | (go_simp; done) | (go_simp; rfl)
    simp only [Act.put, List.setIfInBounds_toArray, List.set_cons_zero, List.set_cons_succ]
    refine las.each (rs := [2]) (by kernel_rfl) rfl ?_
    refine las.Each.cons rfl (fun K hK2 => ?_) las.Each.nil
    refine step_call rfl 31 _ (by go_simp) (HID.out WD kD) ?_
    rintro e w9 ⟨lv, rfl, NR⟩
    refine ⟨_, rfl, ?_⟩
    have k9 : Chg no W w9 := kD.then NR.2
    have hS9 := HS.out w9 k9
    refine hK2.out _ _ hS9 ?_
    simp only [Act.put, List.setIfInBounds_toArray, List.set_cons_zero, List.set_cons_succ]
    clear hK2 K
    refine las.each (rs := [3]) (by kernel_rfl) rfl ?_
    refine las.Each.cons rfl (fun K hK2 => ?_) las.Each.nil
    go_simp
    refine hK2.out _ _ hS9 ?_
    try simp only [Act.put, List.setIfInBounds_toArray, List.set_cons_zero, List.set_cons_succ]
    clear hK2 K
    refine las.each (rs := [4]) (by kernel_rfl) rfl ?_
    refine las.Each.last rfl (by kernel_rfl) (fun K hK2 => ?_)
    go_simp
    refine hK2.out _ _ ?_
    try simp only [Act.put, List.setIfInBounds_toArray, List.set_cons_zero, List.set_cons_succ]
    clear hK2 K
    refine las.done (by kernel_rfl) ?_ _
    go_wp2_with fail
    refine ⟨by simp, .inl ⟨_, _, rfl, run_takeDeferred (w := w9) (k9.heap hK (fun h => h)), ?_⟩⟩
    have hk9 : w9.heap[D]? = some (.deferred (some [])) := (kD.then NR.2).heap hK (fun h => h)
    have kP : Chg (fun k => k = D) w9 (w9.putObj D (.deferred none)) := (Chg.refl _ w9).grown (grownBy_putObj' w9 D (.deferred none)) fun k hk => .inl (by cases hk; rfl)
    have nD : ∀ {k : Nat} {cur : Array Value} {t : TypeId} {fr : Nat × Nat}, w9.heap[k]? = some (.cells cur t fr) → k ≠ D := by
      intro k cur t fr hc e
      subst e
      rw [hk9] at hc
      cases hc
    have owP : ∀ {base : Nat} {v : Value} {n : Nat} {XS : List Value}, w9.ownsRow base 3 1 v n XS → (w9.putObj D (.deferred none)).ownsRow base 3 1 v n XS := fun {base v n XS} o => kP.owns o fun k hk => by
      obtain ⟨cur, t, fr, hc⟩ := owns_cells_at o hk
      exact nD hc
    have rw9 : w9.heap[w4.heap.size]? = some (.cells (xs.flatMap ff).toArray 46 (0, 0)) := by
      have := k9.heap HP.out.row (fun h => h)
      rw [HAE.out] at this
      exact this
    have rwP := kP.heap rw9 (nD rw9)
    have hplan : Sf (turns u) = planF h z ls its := by
      rw [← plan_back (mayP_of hm hn), HUU.out, ← turns_back, hSf, hs0, hsort]
    refine ⟨.tuple #[.slice (some ⟨w4.heap.size, 0, none⟩) m m, lv], ?_, .slice (some ⟨w4.heap.size, 0, none⟩) m m, lv, xs, rfl, ⟨?_, fun x hx => ?_⟩, ?_, ?_, ?_⟩
    · have hres : Try.f10.results = #[.tmp 8, .tmp 9] := by kernel_rfl
      simp only [results, hres]
      go_simp
    · rw [hxl]
      refine .inr ⟨_, m, rfl, fun _ => lt_of_block rwP, fun j v hv => ?_⟩
      rw [Addr.add_lit, Nat.zero_add]
      exact (row_cell rwP j v hv).1
    · exact Lies.old (Lies.of_owns (J := fun _ => True) (owP (k9.owns (HP.out.dat x hx) (fun _ _ h => h))) (fun _ _ => trivial))
    · rw [HX.out, tbl_all _ _ (turns_all u), HUU.out, hplan]
    · rw [← hplan, HR.out]
      exact Lies.old (Lies.of_owns (J := fun _ => True) (owP NR.1) (fun _ _ => trivial))
    · refine (HP.out.chg.then k9).trans kP fun x hx => .inr ?_
      have := HP.out.chg.size
      have := kw5.size
      omega
  case stop =>
    rintro D k pre W _ _ h _
    exact h.elim

end Go.Proofs.Ytkaohjlnlgennaa.st
