/- Contracts of CopyBytes and of the document's DecodeBucket. -/
import Derived.Test.YtlcbfdbnjohicaaDco
namespace Go.Proofs.Ytlcbfdbnjohicaa.st
open Go.ChangeShapes Go.WideShapes Go.ChangeAt Go.RowKit Go.Proofs.Ytlcbfdbnjohicaa.hp Go.Proofs.Ytlcbfdbnjohicaa.dg
set_option linter.unusedVariables false

theorem copyBytes_any {J : Nat → Prop} {w : World} {v : Value} {zs : List Int} (h : Lies J w v (zs.map (Value.int .u8))) (hl : zs.length ≤ 100000000) :
    Calls Try.prog 33 #[v] w fun e w' => ∃ v', e = .returned v' ∧ w'.ownsRow w.heap.size 5 1 v' zs.length (zs.map (Value.int .u8)) ∧ Chg no w w' := by
  obtain ⟨i0, hi, hz0, hz1, hz2⟩ := info_parts info5
  have hmade := World.ownsRow_made (base := w.heap.size) (e := 5) (size := 1) w #[] 0 (Nat.le_refl _) (by unfold maxLen; omega) rfl
  rcases h with ⟨rfl, h0⟩ | ⟨x, cap, rfl, hx, hc⟩
  · obtain rfl : zs = [] := by simpa using h0
    go_enter Try.func33, Try.ntmps33
    go_wp2_with (at_builtin; refine wpList_append_own_none rfl _ _ 25 rfl w.heap.size 5 i0 1 Try.underlying25 hi _ 0 [] rfl hmade rfl ?_)
    go_ret
    exact ⟨_, rfl, hmade, (Chg.refl no w).alloc _⟩
  · go_enter Try.func33, Try.ntmps33
    go_wp2_with (at_builtin; refine wpList_append_own _ rfl _ _ 25 rfl w.heap.size 5 i0 (.int .u8 0) 1 1 Try.underlying25 hi hz0 hz1 hz2 rfl (by decide) _ 0 [] rfl hmade x _ cap (zs.map (Value.int .u8)) rfl ?c1 ?c2 ?c3 ?c4 ?c5 ?c6 ?_)
    case c1 => simp
    case c2 => exact fun j u hu => ((Chg.refl no w).alloc _).cell (hc j u hu) id
    case c3 => exact ints_oneCell _ _
    case c4 => simp; unfold maxLen; omega
    case c5 => simp; omega
    case c6 => simp
    intro v' w1 hown hg _
    go_wp2
    go_ret
    refine ⟨v', rfl, by simpa using hown, ((Chg.refl no w).alloc _).grown hg ?_⟩
    intro k hk
    simp [Value.ownBlock] at hk
    omega

theorem body_bytes {l : List Bk} (h : ∀ b ∈ l, okB b) (hb : ∀ b ∈ l, Bytes b.2) : Bytes (bodyB l) := by
  induction l with
  | nil => intro x hx; simp [bodyB] at hx
  | cons b l ih =>
    have h1 := h b (by simp)
    have h2 := hb b (by simp)
    have h3 := ih (fun c hc => h c (by simp [hc])) (fun c hc => hb c (by simp [hc]))
    intro x hx
    rw [body_cons] at hx
    rcases List.mem_cons.1 hx with e | hx
    · have := h1.1
      have := h1.2.1
      subst e
      constructor <;> omega
    · rcases List.mem_append.1 hx with hx | hx
      · exact h2 x hx
      · exact h3 x hx

theorem enc_bytes {z : Int} {l : List Bk} (hb : ∀ b ∈ l, Bytes b.2) : Bytes (encL z l).1 := by
  unfold encL
  split
  · rename_i hm
    split
    · intro x hx
      simp only [fill] at hx
      rcases List.mem_append.1 hx with hx | hx
      · exact body_bytes hm.2.2.1 hb x hx
      · have := (List.mem_replicate.1 hx).2
        subst this
        constructor <;> omega
    · intro x hx
      simp at hx
  · intro x hx
    simp at hx

theorem abs_bytes {w : World} {v : Value} {xs : List BV} (h : Bks w v xs) : ∀ b ∈ abs xs, Bytes b.2 := by
  intro b hb
  obtain ⟨x, hx, rfl⟩ := List.mem_map.1 hb
  exact (h.dat x hx).2

theorem rprs_stop (n : Nat) (b : List Int) (h : b.length < 38 ∨ b.headD 0 = 0) : rprs n b = [] := by
  cases n with
  | zero => rfl
  | succ n => rw [rprs, if_pos h]

theorem rprs_more (n : Nat) (b : List Int) (h1 : 38 ≤ b.length) (h2 : b.headD 0 ≠ 0) : rprs (n + 1) b = (b.headD 0 - 1, (b.drop 1).take 37) :: rprs n (b.drop 38) := by
  rw [rprs, if_neg]
  rintro (h | h)
  · omega
  · exact h2 h

theorem add_add1 (y : Addr) (A i : Nat) : (⟨y.block, y.off + (A + 1), none⟩ : Addr).add i = y.add (A + 1 + i) := by
  unfold Addr.add
  rw [if_neg (by omega : ¬ A + 1 + i = 0)]
  split
  · subst_vars; simp
  · simp; omega

/-- What the document read so far. -/
structure Rdl (w : World) (zs : List Int) (k : Nat) (xs : List BV) (D : Nat → Prop) (l : Value) (wr : World) : Prop where
  row : NewB 55 no w D xs l wr
  dn : ∀ b, D b → w.heap.size ≤ b
  told : rprs zs.length zs = abs xs ++ rprs (zs.length - k) (zs.drop (38 * k))
  len : xs.length = k
  le : 38 * k ≤ zs.length

set_option maxHeartbeats 4000000 in
theorem rdecode_any {J : Nat → Prop} (w : World) (z : Int) (a : Option Addr) (cap : Nat) (zs : List Int) (hv : Lies J w (.slice a zs.length cap) (zs.map (Value.int .u8))) (hb : Bytes zs) (hl : zs.length ≤ 100000) (hc1 : zs.length ≤ cap) (hc2 : cap ≤ 9223372036854775807) :
    Calls Try.prog 21 #[.int .i64 z, .slice a zs.length cap] w (DecR 55 (rdecL z zs) w) := by
  have HLn := rlength_any w z
  by_cases hz : 1 ≤ z ∧ z ≤ 4
  · have hle : lenL z = z * 38 := by
      unfold lenL
      rw [if_pos hz]
    rw [hle] at HLn
    have hz0 : (z * 38 == 0) = false := by simp; omega
    have H0 : Hid (Rdl w zs 0 [] no (.slice none 0 0) w) := by
      refine ⟨NewB.empty (Chg.refl no w), fun b hb => hb.elim, ?_, rfl, by omega⟩
      simp [abs]
    have HV : Hid (∀ W, Chg no w W → Lies J W (.slice a zs.length cap) (zs.map (Value.int .u8))) := fun W k => hv.chg k (fun _ _ h => h)
    have HB : Hid (Bytes zs) := hb
    have HR : Hid (rdecL z zs = if (encL z (rprs zs.length zs)).2 = 0 ∧ (encL z (rprs zs.length zs)).1 = zs then (rprs zs.length zs, 0) else ([], 2)) := by
      rw [Hid]
      unfold rdecL
      rw [if_pos hz]
    have HD : Hid (∀ k, 38 * k < zs.length → ∃ y, a = some y ∧ ∀ W, Chg no w W → W.cell? (y.add (k * 38)) = some (.int .u8 ((zs.drop (38 * k)).headD 0))) := by
      intro k hk
      obtain ⟨y, rfl, _, h3⟩ := lies_some hv (by rw [List.length_map]; omega)
      refine ⟨y, rfl, fun W K => ?_⟩
      obtain ⟨y2, h2, _, h4⟩ := lies_some (hv.chg K (fun _ _ h => h)) (by rw [List.length_map]; omega)
      cases h2
      refine h4 (k * 38) _ ?_
      rw [List.getElem?_map, show k * 38 = 38 * k by omega]
      cases hc : zs.drop (38 * k) with
      | nil =>
        have := congrArg List.length hc
        simp at this
        omega
      | cons d r =>
        have : zs[38 * k]? = some d := by
          have e := congrArg (fun l => l[0]?) hc
          simpa using e
        rw [this]
        rfl
    obtain ⟨n, hn⟩ : ∃ n, zs.length = n := ⟨_, rfl⟩
    have HL : Hid (zs.length = n) := hn
    rw [hn] at hl hc1 HV ⊢
    have hni : (n : Int) ≤ 100000 := by omega
    have hnc : (n : Int) ≤ cap := by omega
    have hci : (cap : Int) ≤ 9223372036854775807 := by omega
    obtain ⟨i0, hi, hz1, hz2, hz3⟩ := info_parts' info55
    clear hz hle hv hb hn
    go_enter Try.func21, Try.ntmps21
    go_wp2_with fail
    refine HLn.mono ?_
    rintro e w0 ⟨rfl, rfl⟩
    clear HLn
    go_wp2_with fail
    go_loopw [6, 7] (fun u i wr => ∃ k : Nat, k ≤ n ∧ i = .int .i64 (k : Int) ∧ ∃ xs D, Rdl w0 zs k xs D u wr) (fun _ i _ => n - (intOf i).toNat)
    case atStart => exact ⟨0, by omega, rfl, _, _, H0.out⟩
    case round =>
      clear H0
      obtain ⟨k, hk, rfl, xs, D, hR⟩ := hrel
      obtain ⟨a', c', m, XS, rfl, hm, ho, hadd⟩ := hR.row.ready
      have hC := hR.row.chg
      by_cases hkn : k * 38 < n
      · have hki : (k : Int) * 38 < n := by omega
        obtain ⟨y, rfl, hcell⟩ := HD.out k (by rw [HL.out]; omega)
        have e0 := hcell wr hC
        obtain ⟨d, hd⟩ : ∃ d, (zs.drop (38 * k)).headD 0 = d := ⟨_, rfl⟩
        rw [hd] at e0 hcell
        by_cases hd0 : d = 0
        · subst hd0
          have HX : Hid (rprs zs.length zs = abs xs) := by
            rw [Hid, hR.told, rprs_stop _ _ (.inr hd), List.append_nil]
          have HN : Hid (NewB 55 no w0 D xs (.slice a' m c') wr) := hR.row
          have HDn : Hid (∀ b, D b → w0.heap.size ≤ b) := hR.dn
          have HE := rencode_any wr z (.slice a' m c') xs hR.row.bks (by have := hR.len; omega)
          have HBy : Hid (Bytes (encL z (abs xs)).1) := enc_bytes (abs_bytes hR.row.bks)
          clear hR hadd ho hm hC hcell hd
          go_wp2_with fail
          refine HE.mono ?_
          rintro e w5 ⟨v5, rfl, l5, k5⟩
          have HF : Hid (∀ w6, w6 = w5 → (encL z (abs xs)).2 = 0 ∧ (encL z (abs xs)).1 = zs → DecR 55 (rdecL z zs) w0 (.returned (.tuple #[.slice a' m c', .int .i64 0])) w6) := by
            rintro w6 rfl hh
            rw [HR.out, HX.out, if_pos hh]
            exact ⟨_, xs, D, rfl, rfl, HN.out.same k5, HDn.out⟩
          have HG : Hid (∀ w6, w6 = w5 → ¬ ((encL z (abs xs)).2 = 0 ∧ (encL z (abs xs)).1 = zs) → DecR 55 (rdecL z zs) w0 (.returned (.tuple #[.slice none 0 0, .int .i64 2])) w6) := by
            rintro w6 rfl hh
            exact DecR.none (by rw [HR.out, HX.out, if_neg hh]) (HN.out.chg.then k5)
          have hv5 := HV.out w5 (HN.out.chg.then k5)
          obtain ⟨⟨x, er⟩, hE⟩ : ∃ R, encL z (abs xs) = R := ⟨_, rfl⟩
          rw [hE] at l5 HF HG HBy ⊢
          simp only at l5 HF HG HBy ⊢
          obtain ⟨a5, c5, rfl, _⟩ := l5.slice
          simp only [List.length_map] at l5 ⊢
          obtain ⟨n5, hn5⟩ : ∃ n5, x.length = n5 := ⟨_, rfl⟩
          have HQ := bytes_any l5 hv5 HBy.out HB.out
          rw [hn5] at HQ ⊢
          clear HE hE l5 hv5 hn5 k5
          by_cases her : er = 0
          · subst her
            by_cases hx : x = zs
            · rw [decide_eq_true hx] at HQ
              have HF2 := HF.out w5 rfl ⟨rfl, hx⟩
              clear hx
              go_wp2_with fail
              refine HQ.mono ?_
              rintro e w6 ⟨rfl, rfl⟩
              go_wp2
              go_ret2
              exact HF2
            · rw [decide_eq_false hx] at HQ
              have HF2 := HG.out w5 rfl (fun h => hx h.2)
              clear hx
              go_wp2_with fail
              refine HQ.mono ?_
              rintro e w6 ⟨rfl, rfl⟩
              go_wp2
              go_ret2
              exact HF2
          · have HF2 := HG.out w5 rfl (fun h => her h.1)
            have hne : (er != 0) = true := by simpa using her
            clear her
            go_wp2
            go_ret2
            exact HF2
        · have hdb : (d == 0) = false := by simpa using hd0
          by_cases h38 : n - k * 38 < 38
          · have h38i : (n : Int) - (k : Int) * 38 < 38 := by omega
            have HX : Hid (rprs zs.length zs = abs xs) := by
              rw [Hid, hR.told, rprs_stop _ _ (.inl (by rw [List.length_drop, HL.out]; omega)), List.append_nil]
            have HN : Hid (NewB 55 no w0 D xs (.slice a' m c') wr) := hR.row
            have HDn : Hid (∀ b, D b → w0.heap.size ≤ b) := hR.dn
            have HE := rencode_any wr z (.slice a' m c') xs hR.row.bks (by have := hR.len; omega)
            have HBy : Hid (Bytes (encL z (abs xs)).1) := enc_bytes (abs_bytes hR.row.bks)
            clear hR hadd ho hm hC hcell hd
            go_wp2_with fail
            refine HE.mono ?_
            rintro e w5 ⟨v5, rfl, l5, k5⟩
            have HF : Hid (∀ w6, w6 = w5 → (encL z (abs xs)).2 = 0 ∧ (encL z (abs xs)).1 = zs → DecR 55 (rdecL z zs) w0 (.returned (.tuple #[.slice a' m c', .int .i64 0])) w6) := by
              rintro w6 rfl hh
              rw [HR.out, HX.out, if_pos hh]
              exact ⟨_, xs, D, rfl, rfl, HN.out.same k5, HDn.out⟩
            have HG : Hid (∀ w6, w6 = w5 → ¬ ((encL z (abs xs)).2 = 0 ∧ (encL z (abs xs)).1 = zs) → DecR 55 (rdecL z zs) w0 (.returned (.tuple #[.slice none 0 0, .int .i64 2])) w6) := by
              rintro w6 rfl hh
              exact DecR.none (by rw [HR.out, HX.out, if_neg hh]) (HN.out.chg.then k5)
            have hv5 := HV.out w5 (HN.out.chg.then k5)
            obtain ⟨⟨x, er⟩, hE⟩ : ∃ R, encL z (abs xs) = R := ⟨_, rfl⟩
            rw [hE] at l5 HF HG HBy ⊢
            simp only at l5 HF HG HBy ⊢
            obtain ⟨a5, c5, rfl, _⟩ := l5.slice
            simp only [List.length_map] at l5 ⊢
            obtain ⟨n5, hn5⟩ : ∃ n5, x.length = n5 := ⟨_, rfl⟩
            have HQ := bytes_any l5 hv5 HBy.out HB.out
            rw [hn5] at HQ ⊢
            clear HE hE l5 hv5 hn5 k5
            by_cases her : er = 0
            · subst her
              by_cases hx : x = zs
              · rw [decide_eq_true hx] at HQ
                have HF2 := HF.out w5 rfl ⟨rfl, hx⟩
                clear hx
                go_wp2_with fail
                refine HQ.mono ?_
                rintro e w6 ⟨rfl, rfl⟩
                go_wp2
                go_ret2
                exact HF2
              · rw [decide_eq_false hx] at HQ
                have HF2 := HG.out w5 rfl (fun h => hx h.2)
                clear hx
                go_wp2_with fail
                refine HQ.mono ?_
                rintro e w6 ⟨rfl, rfl⟩
                go_wp2
                go_ret2
                exact HF2
            · have HF2 := HG.out w5 rfl (fun h => her h.1)
              have hne : (er != 0) = true := by simpa using her
              clear her
              go_wp2
              go_ret2
              exact HF2
          · have h38i : (k : Int) * 38 + 38 ≤ n := by omega
            have hdr : 0 ≤ d ∧ d ≤ 255 := by
              rw [← hd]
              have hby := HB.out.drop (38 * k)
              cases hc : zs.drop (38 * k) with
              | nil => simp
              | cons d r => exact hby d (by rw [hc]; simp)
            obtain ⟨dl, dh⟩ := hdr
            have hwd : IntKind.i64.wrap d = d := by simp [IntKind.wrap, IntKind.bits, IntKind.signed]; omega
            have hwr : IntKind.i64.wrap (d - 1) = d - 1 := by simp [IntKind.wrap, IntKind.bits, IntKind.signed]; omega
            obtain ⟨N1, hN1⟩ : ∃ N1, n - k = N1 + 1 := ⟨n - k - 1, by omega⟩
            have htold := hR.told
            have hzl : (zs.drop (38 * k)).length = n - 38 * k := by rw [List.length_drop, HL.out]
            rw [HL.out, hN1, rprs_more _ _ (by omega) (by rw [hd]; exact hd0), hd, show (zs.drop (38 * k)).drop 38 = zs.drop (38 * (k + 1)) by rw [List.drop_drop]; congr 1 <;> omega, show N1 = n - (k + 1) by omega] at htold
            obtain ⟨g, hg⟩ : ∃ g, ((zs.drop (38 * k)).drop 1).take 37 = g := ⟨_, rfl⟩
            have hgl : g.length = 37 := by rw [← hg, List.length_take, List.length_drop]; omega
            have hgb : Bytes g := by rw [← hg]; exact ((HB.out.drop (38 * k)).drop 1).take 37
            rw [hg] at htold
            have hml : m ≤ 100000 := by
              have : m = k := by rw [hm, hR.len]
              omega
            have HSL0 : ∀ W, Chg no w0 W → Calls Try.prog 33 #[.slice (some ⟨y.block, y.off + (k * 38 + 1), none⟩) 37 (cap - (k * 38 + 1))] W fun e w' => ∃ a3 c3, e = .returned (.slice a3 37 c3) ∧ w'.ownsRow W.heap.size 5 1 (.slice a3 37 c3) 37 (g.map (Value.int .u8)) ∧ Chg no W w' := by
              intro W K
              have hL : Lies (fun _ => True) W (.slice (some ⟨y.block, y.off + (k * 38 + 1), none⟩) 37 (cap - (k * 38 + 1))) (g.map (Value.int .u8)) := by
                refine .inr ⟨⟨y.block, y.off + (k * 38 + 1), none⟩, _, by rw [List.length_map, hgl], fun _ => trivial, fun i u hu => ?_⟩
                have hV := HV.out W K
                obtain ⟨y2, h2, _, h4⟩ := lies_some hV (by rw [List.length_map, HL.out]; omega)
                cases h2
                rw [add_add1]
                refine h4 _ _ ?_
                rw [← hu, ← hg, List.getElem?_map, List.getElem?_map]
                have hi : i < 37 := by
                  have := (List.getElem?_eq_some_iff.1 hu).1
                  rwa [List.length_map, hgl] at this
                rw [List.getElem?_take_of_lt hi, List.getElem?_drop, List.getElem?_drop]
                congr 2
                omega
              have := copyBytes_any hL (by omega)
              rw [hgl] at this
              refine this.mono ?_
              rintro e w' ⟨v, rfl, o, r⟩
              obtain ⟨a3, c3, rfl⟩ := owns_shape o
              exact ⟨a3, c3, rfl, o, r⟩
            have HR0 : Hid (Rdl w0 zs k xs D (.slice a' m c') wr) := hR
            have HAP : Hid (∀ a3 c3 W0 w3 W, Chg no wr W0 → w3.ownsRow W0.heap.size 5 1 (.slice a3 37 c3) 37 (g.map (Value.int .u8)) → Chg no W0 w3 → Chg no w3 W →
                W.ownsRow 0 55 2 (.slice a' m c') m XS ∧
                (∀ v5 w5, w5.ownsRow 0 55 2 v5 (m + 1) (XS ++ [.int .i64 (d - 1), .slice a3 37 c3]) → W.grownBy w5 (Value.slice a' m c').ownBlock → (∀ b, v5.ownBlock = some b → (Value.slice a' m c').ownBlock = some b ∨ W.heap.size ≤ b) → ∃ xs' D', Rdl w0 zs (k + 1) xs' D' v5 w5)) := by
              intro a3 c3 W0 w3 W k0 o k3 k4
              have K : Chg no wr W := (k0.then k3).then k4
              have s1 := k0.size
              have s3 := k3.size
              have s4 := k4.size
              have sr := HR0.out.row.chg.size
              refine ⟨ho W K, fun v5 w5 o5 g5 n5 => ?_⟩
              have hdl : ∀ b, (Value.slice a3 37 c3).ownBlock = some b → W0.heap.size ≤ b ∧ b < w3.heap.size := fun b hb => o.lt b hb
              refine ⟨xs ++ [⟨d - 1, .slice a3 37 c3, g⟩], fun b => D b ∨ (Value.slice a3 37 c3).ownBlock = some b, hadd ⟨d - 1, .slice a3 37 c3, g⟩ (fun b => D b ∨ (Value.slice a3 37 c3).ownBlock = some b) W v5 w5 K ?_ hgb (fun b hb => .inl hb) ?_ o5 g5 n5, ?_, ?_, ?_, ?_⟩
              · exact (Lies.of_owns o (fun b hb => .inr hb)).chg k4 (fun _ _ h => h)
              · rintro b (hb | hb)
                · exact .inl hb
                · have := hdl b hb
                  exact .inr ⟨by omega, by omega⟩
              · rintro b (hb | hb)
                · exact HR0.out.dn b hb
                · have := hdl b hb
                  omega
              · rw [HL.out, htold]
                simp [abs, BV.bk]
              · simp [HR0.out.len]
              · rw [HL.out]
                omega
            have HC0 : ∀ W, Chg no wr W → W.cell? (y.add (k * 38)) = some (.int .u8 d) := fun W K => hcell W (hC.then K)
            have hCr := hC
            obtain ⟨A, hA⟩ : ∃ A, k * 38 = A := ⟨_, rfl⟩
            have hAi : (k : Int) * 38 = (A : Int) := by omega
            rw [hA] at e0 HC0 HSL0
            have HC : Hid (∀ W, Chg no wr W → W.cell? (y.add A) = some (.int .u8 d)) := HC0
            have HSL : Hid (∀ W, Chg no wr W → Calls Try.prog 33 #[.slice (some ⟨y.block, y.off + (A + 1), none⟩) 37 (cap - (A + 1))] W fun e w' => ∃ a3 c3, e = .returned (.slice a3 37 c3) ∧ w'.ownsRow W.heap.size 5 1 (.slice a3 37 c3) 37 (g.map (Value.int .u8)) ∧ Chg no W w') := fun W K => HSL0 W (hCr.then K)
            have hA0 : 0 ≤ (A : Int) + 38 := by omega
            have hA1 : 0 ≤ (A : Int) + 1 := by omega
            have hce : ¬ cap = A + 1 := by omega
            have hAn : (A : Int) + 38 ≤ n := by omega
            have hAd : decide ((n : Int) - (A : Int) < 38) = false := by simp; omega
            have hw1 : IntKind.i64.wrap ((A : Int) + 1) = (A : Int) + 1 := by simp [IntKind.wrap, IntKind.bits, IntKind.signed]; omega
            have hw2 : IntKind.i64.wrap ((A : Int) + 1 + 37) = (A : Int) + 38 := by simp [IntKind.wrap, IntKind.bits, IntKind.signed]; omega
            have ht1 : ((A : Int) + 1).toNat = A + 1 := by omega
            have ht2 : ((A : Int) + 38).toNat = A + 38 := by omega
            have hcA : (A : Int) + 38 ≤ cap := by omega
            have hs1 : A + 38 - (A + 1) = 37 := by omega
            clear hcell hR hadd ho hm hC hA h38 h38i HC0 HSL0 hCr htold hzl hN1 hg hgl hgb hd0 hd
            go_wp2_with fail
            go_region_law (first
              | (refine step_append_at rfl (.tmp 35) (.tmp 51) 30 rfl 55 i0 bz 2 32 Try.underlying30 hi hz1 hz2 hz3 rfl (by decide) (.slice a' m c') m XS (by simp [Act.eval]) HO3.out ⟨w3.heap.size, 0, none⟩ 1 1 [.int .i64 (d - 1), .slice a3 37 c3] (by simp [Act.eval]) rfl news_at (one_b _ _ _ _) (by unfold maxLen; omega) (by omega) ?_; intro v5 w5 o5 g5 n5; obtain ⟨xs5, D5, N5⟩ := HQ2.out v5 w5 o5 g5 n5; obtain ⟨a5, c5, e5⟩ := owns_shape o5; subst e5; have HN5 : Hid _ := N5; clear o5 g5 n5 N5)
              | (refine step_call rfl 33 #[.slice (some ⟨y.block, y.off + (A + 1), none⟩) 37 (cap - (A + 1))] (by go_simp) (HSL.out _ (Chg.refl no _).drew) ?_; rintro e w3 ⟨a3, c3, rfl, o3, k3⟩; have c3y := HC.out w3 ((Chg.refl no wr).drew.then k3); have HQ := HAP.out a3 c3 _ w3 (w3.alloc (.cells #[.int .i64 (d - 1), .slice a3 37 c3] 55)) (Chg.refl no wr).drew o3 k3 ((Chg.refl no w3).alloc _); have HO3 : Hid _ := HQ.1; have HQ2 : Hid _ := HQ.2; clear HQ o3 k3; refine ⟨_, rfl, ?_⟩))
            all_goals go_wp2
            all_goals go_roundw
            all_goals first | exact ⟨k + 1, by omega, by go_num, _, _, HN5.out⟩ | (simp [intOf]; omega)
      · have hki : (n : Int) ≤ (k : Int) * 38 := by omega
        have HX : Hid (rprs zs.length zs = abs xs) := by
          rw [Hid, hR.told, rprs_stop _ _ (.inl (by rw [List.length_drop, HL.out]; omega)), List.append_nil]
        have HN : Hid (NewB 55 no w0 D xs (.slice a' m c') wr) := hR.row
        have HDn : Hid (∀ b, D b → w0.heap.size ≤ b) := hR.dn
        have HE := rencode_any wr z (.slice a' m c') xs hR.row.bks (by have := hR.len; omega)
        have HBy : Hid (Bytes (encL z (abs xs)).1) := enc_bytes (abs_bytes hR.row.bks)
        clear hR hadd ho hm hC hkn
        go_wp2_with fail
        refine HE.mono ?_
        rintro e w5 ⟨v5, rfl, l5, k5⟩
        have HF : Hid (∀ w6, w6 = w5 → (encL z (abs xs)).2 = 0 ∧ (encL z (abs xs)).1 = zs → DecR 55 (rdecL z zs) w0 (.returned (.tuple #[.slice a' m c', .int .i64 0])) w6) := by
          rintro w6 rfl hh
          rw [HR.out, HX.out, if_pos hh]
          exact ⟨_, xs, D, rfl, rfl, HN.out.same k5, HDn.out⟩
        have HG : Hid (∀ w6, w6 = w5 → ¬ ((encL z (abs xs)).2 = 0 ∧ (encL z (abs xs)).1 = zs) → DecR 55 (rdecL z zs) w0 (.returned (.tuple #[.slice none 0 0, .int .i64 2])) w6) := by
          rintro w6 rfl hh
          exact DecR.none (by rw [HR.out, HX.out, if_neg hh]) (HN.out.chg.then k5)
        have hv5 := HV.out w5 (HN.out.chg.then k5)
        obtain ⟨⟨x, er⟩, hE⟩ : ∃ R, encL z (abs xs) = R := ⟨_, rfl⟩
        rw [hE] at l5 HF HG HBy ⊢
        simp only at l5 HF HG HBy ⊢
        obtain ⟨a5, c5, rfl, _⟩ := l5.slice
        simp only [List.length_map] at l5 ⊢
        obtain ⟨n5, hn5⟩ : ∃ n5, x.length = n5 := ⟨_, rfl⟩
        have HQ := bytes_any l5 hv5 HBy.out HB.out
        rw [hn5] at HQ ⊢
        clear HE hE l5 hv5 hn5 k5
        by_cases her : er = 0
        · subst her
          by_cases hx : x = zs
          · rw [decide_eq_true hx] at HQ
            have HF2 := HF.out w5 rfl ⟨rfl, hx⟩
            clear hx
            go_wp2_with fail
            refine HQ.mono ?_
            rintro e w6 ⟨rfl, rfl⟩
            go_wp2
            go_ret2
            exact HF2
          · rw [decide_eq_false hx] at HQ
            have HF2 := HG.out w5 rfl (fun h => hx h.2)
            clear hx
            go_wp2_with fail
            refine HQ.mono ?_
            rintro e w6 ⟨rfl, rfl⟩
            go_wp2
            go_ret2
            exact HF2
        · have HF2 := HG.out w5 rfl (fun h => her h.1)
          have hne : (er != 0) = true := by simpa using her
          clear her
          go_wp2
          go_ret2
          exact HF2
  · have hle : lenL z = 0 := by
      unfold lenL
      rw [if_neg hz]
    rw [hle] at HLn
    have HR : Hid (DecR 55 (rdecL z zs) w (.returned (.tuple #[.slice none 0 0, .int .i64 1])) w) := by
      refine DecR.none ?_ (Chg.refl no w)
      unfold rdecL
      rw [if_neg hz]
    obtain ⟨n, hn⟩ : ∃ n, zs.length = n := ⟨_, rfl⟩
    rw [hn]
    clear hl hb hz hn hv hc1 hc2 hle
    go_enter Try.func21, Try.ntmps21
    go_wp2_with fail
    refine HLn.mono ?_
    rintro e w0 ⟨rfl, rfl⟩
    clear HLn
    go_wp2
    go_ret2
    exact HR.out

end Go.Proofs.Ytlcbfdbnjohicaa.st
