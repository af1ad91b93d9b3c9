/- The contract of Trace. -/
import Derived.Test.YteehphmedmplkaaRecO
namespace Go.Proofs.Yteehphmedmplkaa.st
open Go.ChangeShapes Go.WideShapes Go.ChangeAt Go.RowKit Go.Proofs.Yteehphmedmplkaa.hp Go.Proofs.Yteehphmedmplkaa.md
set_option linter.unusedVariables false

/-- What a record tells. -/
def Rec.tell (x : Rec) : Int × Int × List Int := (x.kind, x.addr, x.zs)

theorem Rco.trcAt {w : World} {r p : Nat} {F S I : Nat → Prop} {m : Mod} {vt : Value} {T : List Rec} (h : Rco w r p F S I m vt T) : ∃ xt ct, vt = .slice xt T.length ct ∧ ∀ i, i < T.length → ∃ gf ab cb, xt = some ⟨gf, 0, none⟩ ∧ gf < w.heap.size ∧ w.cell? ⟨gf, i * 3, none⟩ = some (.int .i64 (T.getD i dR).kind) ∧
    w.cell? ⟨gf, i * 3 + 1, none⟩ = some (.int .i64 (T.getD i dR).addr) ∧ w.cell? ⟨gf, i * 3 + 2, none⟩ = some (.slice ab (T.getD i dR).zs.length cb) ∧ Lies I w (.slice ab (T.getD i dR).zs.length cb) ((T.getD i dR).zs.map (Value.int .u8)) := by
  have hs := h.tpg
  have hlt := h.lt
  rcases h.trc.2 with ⟨rfl, hn⟩ | ⟨g, cap, cur, rfl, hb, hg, hc, hm, hsz, ht⟩
  · exact ⟨_, _, by rw [hn], fun i hi => by omega⟩
  · refine ⟨_, _, rfl, fun i hi => ?_⟩
    obtain ⟨r1, r2, r3⟩ := recs_get T i hi
    have hL := h.byt _ (getD_mem hi)
    obtain ⟨ab, cb, hv, _⟩ := hL.slice
    simp only [List.length_map] at hv
    rw [hv] at hL r3
    exact ⟨g, ab, cb, rfl, hlt g (hs g rfl).2.2.2, by rw [h.trc.cellAt (i * 3) (by omega)]; exact r1, by rw [h.trc.cellAt (i * 3 + 1) (by omega)]; exact r2, by rw [h.trc.cellAt (i * 3 + 2) (by omega)]; exact r3, hL⟩

/-- What Trace has laid so far: n rows of three cells in block g, the first k of which tell what T tells. -/
def Laid (w : World) (g n k : Nat) (T : List Rec) (wr : World) : Prop :=
  ∃ (xs : List Value) (T' : List Rec), wr.heap[g]? = some (.cells xs.toArray 61 (0, 0)) ∧ xs.length = n * 3 ∧ xs.take (k * 3) = recs T' ∧ T'.map Rec.tell = (T.take k).map Rec.tell ∧ (∀ x ∈ T', Lies (fun j => w.heap.size ≤ j ∧ j ≠ g) wr x.v (x.zs.map (Value.int .u8))) ∧ Chg no w wr

theorem row_full {w : World} {base g n : Nat} {e : TypeId} {xs : List Value} (h : w.ownsRow base e 3 (.slice (some ⟨g, 0, none⟩) n n) n xs) : w.heap[g]? = some (.cells xs.toArray e (0, 0)) ∧ base ≤ g := by
  have h1 := h.1
  rcases h.2 with ⟨hv, _⟩ | ⟨g', cap, cur, hv, hb, hg, _, _, hs, ht⟩
  · cases hv
  · simp at hv
    obtain ⟨rfl, rfl⟩ := hv
    refine ⟨?_, hb⟩
    rw [hg]
    congr 2
    rw [← ht, List.take_of_length_le (by simp; omega)]

theorem laid_more {w wr w3 : World} {n k B : Nat} {T T' : List Rec} {xs : List Value} {xk xa : Int} {xv v : Value} {xz : List Int}
    (K : xs.length = n * 3 ∧ xs.take (k * 3) = recs T' ∧ T'.map Rec.tell = (T.take k).map Rec.tell ∧ (∀ x ∈ T', Lies (fun j => w.heap.size ≤ j ∧ j ≠ w.heap.size) wr x.v (x.zs.map (Value.int .u8))) ∧ Chg no w wr)
    (hT : (T.take (k + 1)).map Rec.tell = (T.take k).map Rec.tell ++ [(⟨xk, xa, xv, xz⟩ : Rec).tell]) (hs : w.heap.size < wr.heap.size) (g3 : w3.heap[w.heap.size]? = some (.cells xs.toArray 61 (0, 0))) (c : Chg no wr w3)
    (o : w3.ownsRow B 5 1 v xz.length (xz.map (Value.int .u8))) (hB : w.heap.size < B) (hk : k < n) :
    Laid w w.heap.size n (k + 1) T (((w3.setCell ⟨w.heap.size, k * 3, none⟩ (.int .i64 xk)).setCell ⟨w.heap.size, k * 3 + 1, none⟩ (.int .i64 xa)).setCell ⟨w.heap.size, k * 3 + 2, none⟩ v) := by
  obtain ⟨hxl, hxt, hTT, hb, C⟩ := K
  have g4 := row_set (row_set (row_set g3 (k * 3) (.int .i64 xk)) (k * 3 + 1) (.int .i64 xa)) (k * 3 + 2) v
  have c2 : Chg (fun j => j = w.heap.size) w3 (((w3.setCell ⟨w.heap.size, k * 3, none⟩ (.int .i64 xk)).setCell ⟨w.heap.size, k * 3 + 1, none⟩ (.int .i64 xa)).setCell ⟨w.heap.size, k * 3 + 2, none⟩ v) :=
    (((Chg.refl (fun j => j = w.heap.size) w3).setCell _ _ (.inl rfl)).setCell _ _ (.inl rfl)).setCell _ _ (.inl rfl)
  refine ⟨_, T' ++ [⟨xk, xa, v, xz⟩], g4, by simp [hxl], ?_, ?_, ?_, ?_⟩
  · rw [recs_append, ← hxt]
    apply List.ext_getElem?
    intro j
    rw [List.getElem?_take]
    by_cases h1 : j < k * 3
    · rw [if_pos (by omega), List.getElem?_append_left (by simp; omega), List.getElem?_take, if_pos h1, List.getElem?_set_ne (by omega), List.getElem?_set_ne (by omega), List.getElem?_set_ne (by omega)]
    · rw [List.getElem?_append_right (by simp; omega)]
      have hl : (xs.take (k * 3)).length = k * 3 := by simp; omega
      rw [hl]
      by_cases h2 : j = k * 3
      · subst h2
        rw [if_pos (by omega), List.getElem?_set_ne (by omega), List.getElem?_set_ne (by omega), List.getElem?_set_self (by omega), Nat.sub_self]
        rfl
      · by_cases h3 : j = k * 3 + 1
        · subst h3
          rw [if_pos (by omega), List.getElem?_set_ne (by omega), List.getElem?_set_self (by simp; omega), show k * 3 + 1 - k * 3 = 1 by omega]
          rfl
        · by_cases h4 : j = k * 3 + 2
          · subst h4
            rw [if_pos (by omega), List.getElem?_set_self (by simp; omega), show k * 3 + 2 - k * 3 = 2 by omega]
            rfl
          · rw [if_neg (by omega), List.getElem?_eq_none (by simp; omega)]
  · rw [List.map_append, hTT, hT]
    rfl
  · intro x hx
    simp only [List.mem_append, List.mem_singleton] at hx
    rcases hx with hx | rfl
    · exact ((hb x hx).chg c (fun _ _ h => h)).chg c2 (fun j hj e => hj.2 e)
    · have : Lies (fun j => w.heap.size ≤ j ∧ j ≠ w.heap.size) w3 v (xz.map (Value.int .u8)) := Lies.of_owns o (fun j hj => by have := (o.lt j hj).1; exact ⟨by omega, by omega⟩)
      exact this.chg c2 (fun j hj e => hj.2 e)
  · exact (C.then c).trans c2 (fun j hj => .inr (by omega))

theorem Laid.tra {w wr : World} {g n : Nat} {T : List Rec} (h : Laid w g n n T wr) (hn : T.length = n) (hg : w.heap.size ≤ g) : ∃ T', Tra (fun j => w.heap.size ≤ j) wr (.slice (some ⟨g, 0, none⟩) n n) T' ∧ T'.map Rec.tell = T.map Rec.tell ∧ Chg no w wr := by
  obtain ⟨xs, T', gx, hxl, hxt, hT, hb, C⟩ := h
  have hT2 : T'.map Rec.tell = T.map Rec.tell := by rw [hT, List.take_of_length_le (by omega)]
  have hl : T'.length = n := by have := congrArg List.length hT2; simp at this; omega
  rw [List.take_of_length_le (by omega)] at hxt
  refine ⟨T', ⟨_, _, by rw [hl], by omega, fun i hi => ⟨_, rfl, hg, ?_⟩⟩, hT2, C⟩
  obtain ⟨r1, r2, r3⟩ := recs_get T' i hi
  rw [← hxt] at r1 r2 r3
  simp only [Addr.add_lit, Nat.zero_add]
  exact ⟨(row_cell gx _ _ r1).1, (row_cell gx _ _ r2).1, (row_cell gx _ _ r3).1, (hb _ (getD_mem hi)).mono (fun j hj => hj.1)⟩

set_option maxRecDepth 100000 in
set_option maxHeartbeats 4000000 in
theorem trace_any {w : World} {r p : Nat} {F : Nat → Prop} {m : Mod} {T : List Rec} (h : Rc w r p F m T) (ht : T.length ≤ 100000000) (hz : ∀ x ∈ T, x.zs.length ≤ 100000) :
    Calls Try.prog 33 #[.pointer (some ⟨r, 0, none⟩)] w fun e w' => ∃ g, e = .returned (.slice (some ⟨g, 0, none⟩) T.length T.length) ∧ w.heap.size ≤ g ∧ Laid w g T.length T.length T w' := by
  obtain ⟨S, I, vt, h⟩ := h
  obtain ⟨c0, c1, f1⟩ := h.cells
  obtain ⟨xt, ct, hvt, hat⟩ := h.trcAt
  obtain ⟨n, hn⟩ : ∃ n, T.length = n := ⟨_, rfl⟩
  have HN : Hid (T.length = n) := hn
  rw [hn] at hvt hat ht ⊢
  subst hvt
  obtain ⟨i0, hi, hz0, hz1, hz2⟩ := info_parts info61
  have HAT : Hid (∀ i, i < n → ∃ gf ab cb, xt = some ⟨gf, 0, none⟩ ∧ gf < w.heap.size ∧ w.cell? ⟨gf, i * 3, none⟩ = some (.int .i64 (T.getD i dR).kind) ∧
    w.cell? ⟨gf, i * 3 + 1, none⟩ = some (.int .i64 (T.getD i dR).addr) ∧ w.cell? ⟨gf, i * 3 + 2, none⟩ = some (.slice ab (T.getD i dR).zs.length cb) ∧ Lies I w (.slice ab (T.getD i dR).zs.length cb) ((T.getD i dR).zs.map (Value.int .u8))) := hat
  have HI : Hid (∀ k, I k → k < w.heap.size) := fun k hk => h.lt k (h.fi k hk)
  have HZ : Hid (∀ i, i < n → (T.getD i dR).zs.length ≤ 100000) := fun i hi => hz _ (getD_mem (by rw [hn]; exact hi))
  clear hn hat h hz
  go_enter Try.func33, Try.ntmps33
  go_wp2_with (at_make; refine wpList_make_full _ rfl _ _ 42 rfl w.heap.size 61 i0 (.agg #[.int .i64 0, .int .i64 0, .slice none 0 0]) 3 Try.underlying42 hi hz0 hz1 .i64 .i64 n n n rfl rfl rfl rfl ?c1 ?c2 ?c3 ?_)
  case c1 => rw [hz2]; omega
  case c2 => unfold maxLen; omega
  case c3 => omega
  intro w1 hown hg
  have k1 : Chg no w w1 := (Chg.refl no w).grown hg (by simp)
  obtain ⟨g1, _⟩ := row_full hown
  have hxl := hown.1
  have hgl := lt_of_block g1
  have d1 := k1.cell c1 id
  have L0 : Laid w w.heap.size n 0 T w1 := ⟨_, [], g1, hxl, by simp [recs], by simp, by simp, k1⟩
  clear hown hg g1 hxl
  go_wp2_with fail
  go_loopw [17] (fun i wr => ∃ k : Nat, k ≤ n ∧ i = .int .i64 (k : Int) ∧ Laid w w.heap.size n k T wr) (fun i _ => n - (intOf i).toNat)
  case atStart => exact ⟨0, by omega, rfl, L0⟩
  case round =>
    clear L0 d1 k1
    obtain ⟨k, hk, rfl, xs, T', gx, hxl, hxt, hT, hb, C⟩ := hrel
    by_cases hkn : k < n
    · have hkni : (k : Int) < n := by omega
      obtain ⟨gf, ab, cb, rfl, hgf, f0, f1', f2, hL⟩ := HAT.out k hkn
      have hzl := HZ.out k hkn
      have hTk : (T.take (k + 1)).map Rec.tell = (T.take k).map Rec.tell ++ [(T.getD k dR).tell] := by
        rw [List.take_add_one, List.map_append, List.getD_eq_getElem?_getD, List.getElem?_eq_getElem (by rw [HN.out]; exact hkn)]
        rfl
      obtain ⟨⟨xk, xa, xv, xz⟩, hX⟩ : ∃ X, T.getD k dR = X := ⟨_, rfl⟩
      rw [hX] at f0 f1' f2 hL hzl hTk
      simp only at f0 f1' f2 hL hzl
      have e0 := C.cell f0 id
      have e1 := C.cell f1' id
      have e2 := C.cell f2 id
      have HL : Hid (Lies I wr (.slice ab xz.length cb) (xz.map (Value.int .u8))) := hL.chg C (fun _ _ h => h)
      have HK : Hid (xs.length = n * 3 ∧ xs.take (k * 3) = recs T' ∧ T'.map Rec.tell = (T.take k).map Rec.tell ∧ (∀ x ∈ T', Lies (fun j => w.heap.size ≤ j ∧ j ≠ w.heap.size) wr x.v (x.zs.map (Value.int .u8))) ∧ Chg no w wr) := ⟨hxl, hxt, hT, hb, C⟩
      have HGX : Hid (wr.heap[w.heap.size]? = some (.cells xs.toArray 61 (0, 0))) := gx
      have HTk : Hid ((T.take (k + 1)).map Rec.tell = (T.take k).map Rec.tell ++ [(⟨xk, xa, xv, xz⟩ : Rec).tell]) := hTk
      have HSZ : Hid (w.heap.size < wr.heap.size) := lt_of_block gx
      clear f0 f1' f2 hL hX hTk hxl hxt hT hb C gx
      go_wp2_with fail
      refine (copyRec_any xk xa _ xz I _ (HL.out.chg ((Chg.refl no wr).alloc _) (fun _ _ h => h)) hzl (fun k hk => by have := HI.out k hk; have := HSZ.out; simp; omega)).mono ?_
      rintro e w3 ⟨v3, rfl, o3, k3⟩
      obtain ⟨a3, c3, rfl⟩ := owns_shape o3
      have g3 := (((Chg.refl no wr).alloc (.cells #[.int .i64 xk, .int .i64 xa, .slice ab xz.length cb] 61)).then k3).heap HGX.out id
      have hx0 : ∃ u0, xs[k * 3]? = some u0 := ⟨_, List.getElem?_eq_getElem (by have := HK.out.1; omega)⟩
      have hx1 : ∃ u0, xs[k * 3 + 1]? = some u0 := ⟨_, List.getElem?_eq_getElem (by have := HK.out.1; omega)⟩
      have hx2 : ∃ u0, xs[k * 3 + 2]? = some u0 := ⟨_, List.getElem?_eq_getElem (by have := HK.out.1; omega)⟩
      obtain ⟨u0, hx0⟩ := hx0
      obtain ⟨u1, hx1⟩ := hx1
      obtain ⟨u2, hx2⟩ := hx2
      obtain ⟨q0, q3⟩ := row_cell g3 (k * 3) u0 hx0
      obtain ⟨q1, q4⟩ := row_cell g3 (k * 3 + 1) u1 hx1
      obtain ⟨q2, q5⟩ := row_cell g3 (k * 3 + 2) u2 hx2
      have HG3 : Hid (w3.heap[w.heap.size]? = some (.cells xs.toArray 61 (0, 0))) := g3
      have HE : Hid (Laid w w.heap.size n (k + 1) T (((w3.setCell ⟨w.heap.size, k * 3, none⟩ (.int .i64 xk)).setCell ⟨w.heap.size, k * 3 + 1, none⟩ (.int .i64 xa)).setCell ⟨w.heap.size, k * 3 + 2, none⟩ (.slice a3 xz.length c3))) :=
        laid_more HK.out HTk.out HSZ.out HG3.out (((Chg.refl no wr).alloc _).then k3) o3 (by have := HSZ.out; simp; omega) hkn
      clear HG3 g3 o3 k3 HK HTk HGX hx0 hx1 hx2
      go_wp2
      go_roundw
      case rel => exact ⟨k + 1, by omega, by go_num, HE.out⟩
      case measure => simp [intOf]; omega
    · obtain rfl : k = n := by omega
      have hkni : (k : Int) ≤ k := by omega
      have HE : Hid (Laid w w.heap.size k k T wr) := ⟨xs, T', gx, hxl, hxt, hT, hb, C⟩
      clear hxl hxt hT hb C gx
      go_wp2
      go_ret
      exact ⟨w.heap.size, rfl, Nat.le_refl _, HE.out⟩

end Go.Proofs.Yteehphmedmplkaa.st
