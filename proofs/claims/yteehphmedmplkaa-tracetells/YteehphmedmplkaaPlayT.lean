/- The recorder beside the document's store: one is like the other, whatever is done to both. -/
import Derived.Test.YteehphmedmplkaaRtW
import Derived.Test.YteehphmedmplkaaFailsS
namespace Go.Proofs.Yteehphmedmplkaa.pl
open Go.ChangeShapes Go.WideShapes Go.ChangeAt Go.RowKit Go.Proofs.Yteehphmedmplkaa.hp Go.Proofs.Yteehphmedmplkaa.md Go.Proofs.Yteehphmedmplkaa.st
open Go.Proofs.Yteehphmedmplkaa.rt (Rt rreboot_any rsync_fail rsync_ok rarm_bad rarm_ok rcrash_any rcrash_down rwrite_fail rwrite_form rwrite_out rwrite_ok rread_fail rread_out rread_in rpeek_in rpeek_out rup_any rnew_in rnew_out)
set_option linter.unusedVariables false

/-- Both hold the same bytes, in flight too. -/
structure Like (m m' : Mod) : Prop where
  sz : m.sz = m'.sz
  V : m.V.map (·.2) = m'.V.map (·.2)
  W : m.W.map (fun x => (x.1, x.2.2)) = m'.W.map (fun x => (x.1, x.2.2))
  up : m.up = m'.up
  ops : m.ops = m'.ops
  arm : m.arm = m'.arm
  kp : m.kp = m'.kp

theorem getD_map {α β : Type} (g : α → β) (l : List α) (i : Nat) (d : α) : g (l.getD i d) = (l.map g).getD i (g d) := by
  simp only [List.getD_eq_getElem?_getD, List.getElem?_map]
  cases l[i]? <;> rfl

theorem redo_like {V V' : List Cell} {W W' : List Wr} (hV : V.map (·.2) = V'.map (·.2)) (hW : W.map (fun x => (x.1, x.2.2)) = W'.map (fun x => (x.1, x.2.2))) (f : Nat → Bool) (i : Nat) :
    (redo V W f i).map (·.2) = (redo V' W' f i).map (·.2) := by
  induction i with
  | zero => exact hV
  | succ i ih =>
    have h1 : ((W.getD i dW).1, (W.getD i dW).2.2) = ((W'.getD i dW).1, (W'.getD i dW).2.2) := by
      have e1 := getD_map (fun x : Wr => (x.1, x.2.2)) W i dW
      have e2 := getD_map (fun x : Wr => (x.1, x.2.2)) W' i dW
      rw [hW] at e1
      exact e1.trans e2.symm
    simp only [Prod.mk.injEq] at h1
    simp only [redo]
    split
    · rw [List.map_set, List.map_set, ih, h1.1, h1.2]
    · exact ih

section
variable {m m' : Mod}

theorem Like.len (h : Like m m') : m.W.length = m'.W.length := by
  have := congrArg List.length h.W
  simpa using this

theorem Like.vlen (h : Like m m') : m.V.length = m'.V.length := by
  have := congrArg List.length h.V
  simpa using this

theorem Like.redo (h : Like m m') (f : Nat → Bool) : (redo m.V m.W f m.W.length).map (·.2) = (redo m'.V m'.W f m'.W.length).map (·.2) := by
  rw [h.len]
  exact redo_like h.V h.W f _

theorem Like.now (h : Like m m') (i : Nat) : (m.now.getD i dC).2 = (m'.now.getD i dC).2 := by
  rw [getD_map (fun c : Cell => c.2), getD_map (fun c : Cell => c.2)]
  unfold Mod.now
  rw [h.redo all]

theorem Like.fails (h : Like m m') : m.fails = m'.fails := by unfold Mod.fails; rw [h.up, h.arm]

theorem Like.crash (h : Like m m') (k : List Bool) : Like (m.crash k) (m'.crash k) := ⟨h.sz, h.redo _, rfl, rfl, h.ops, rfl, rfl⟩

theorem Like.sync (h : Like m m') : Like m.sync m'.sync := ⟨h.sz, h.redo _, rfl, h.up, h.ops, h.arm, h.kp⟩

theorem Like.put (h : Like m m') (a : Nat) (v v' : Value) (zs : List Int) : Like (Mod.put m (a, v, zs)) (Mod.put m' (a, v', zs)) := ⟨h.sz, h.V, by simp [Mod.put, h.W], h.up, h.ops, h.arm, h.kp⟩

theorem Like.set (h : Like m m') (a : Nat) (k : List Bool) : Like { m with arm := a, kp := k } { m' with arm := a, kp := k } := ⟨h.sz, h.V, h.W, h.up, h.ops, rfl, rfl⟩

theorem Like.boot (h : Like m m') : Like { m with up := true } { m' with up := true } := ⟨h.sz, h.V, h.W, rfl, h.ops, h.arm, h.kp⟩

theorem Like.began (h : Like m m') : Like m.began m'.began := by
  obtain ⟨sz, V, W, up, ops, arm, kp⟩ := m
  obtain ⟨sz', V', W', up', ops', arm', kp'⟩ := m'
  obtain ⟨h1, h2, h3, h4, h5, h6, h7⟩ := h
  simp only at h1 h2 h3 h4 h5 h6 h7
  subst h1 h4 h5 h6 h7
  unfold Mod.began
  simp only
  split
  · split
    · exact Like.crash (m := ⟨sz, V, W, up, ops + 1, arm, kp⟩) (m' := ⟨sz, V', W', up, ops + 1, arm, kp⟩) ⟨rfl, h2, h3, rfl, rfl, rfl, rfl⟩ _
    · exact ⟨rfl, h2, h3, rfl, rfl, rfl, rfl⟩
  · exact ⟨rfl, h2, h3, rfl, rfl, rfl, rfl⟩
end

/-- What the law carries: the recorder at r over the store at p, the document's store at q. -/
structure D (w : World) (r p q n sz k : Nat) (F G : Nat → Prop) (m m' : Mod) (T T' : List Rec) (wr : World) : Prop where
  rc : Rc wr r p F m T
  rt : Rt wr q G m' T'
  like : Like m m'
  tell : T.map Rec.tell = T'.map Rec.tell
  dis : ∀ j, F j → ¬ G j
  fw : ∀ j, F j → w.heap.size ≤ j
  gw : ∀ j, G j → w.heap.size ≤ j
  V : m.V.length = n
  hsz : m.sz = sz
  ops : m.ops ≤ k
  le : T.length ≤ k
  kp : m.kp.length ≤ 20000
  zs : ∀ x ∈ T, x.zs.length ≤ 100000
  chg : Chg no w wr

/-- .. whatever their states. -/
def DD (w : World) (r p q n sz k : Nat) (wr : World) : Prop := ∃ F G m m' T T', D w r p q n sz k F G m m' T T' wr

section
variable {w wr w1 w2 : World} {r p q n sz k : Nat} {F G F1 G2 : Nat → Prop} {m m' m1 m2 : Mod} {T T' T1 T2 : List Rec}

theorem D.same (h : D w r p q n sz k F G m m' T T' wr) (c : Chg no wr w1) : D w r p q n sz k F G m m' T T' w1 :=
  ⟨h.rc.same c, h.rt.same c, h.like, h.tell, h.dis, h.fw, h.gw, h.V, h.hsz, h.ops, h.le, h.kp, h.zs, h.chg.then c⟩

theorem DD.same (h : DD w r p q n sz k wr) (c : Chg no wr w1) : DD w r p q n sz k w1 := by
  obtain ⟨F, G, m, m', T, T', h⟩ := h
  exact ⟨F, G, m, m', T, T', h.same c⟩

theorem D.more (h : D w r p q n sz k F G m m' T T' wr) {k' : Nat} (hk : k ≤ k') : D w r p q n sz k' F G m m' T T' wr :=
  ⟨h.rc, h.rt, h.like, h.tell, h.dis, h.fw, h.gw, h.V, h.hsz, Nat.le_trans h.ops hk, Nat.le_trans h.le hk, h.kp, h.zs, h.chg⟩

/-- Between the two calls: the document's store stands yet. -/
theorem D.mid (h : D w r p q n sz k F G m m' T T' wr) (c1 : Chg F wr w1) : Rt w1 q G m' T' := h.rt.chg c1 (fun j hj e => h.dis j e hj)

/-- Behind both calls. -/
theorem D.both (h : D w r p q n sz k F G m m' T T' wr) (s1 : Rc w1 r p F1 m1 T1) (c1 : Chg F wr w1) (hF : ∀ j, F1 j → F j ∨ wr.heap.size ≤ j) (r2 : Rt w2 q G2 m2 T2) (c2 : Chg G w1 w2) (hG : ∀ j, G2 j → G j ∨ w1.heap.size ≤ j) (l : Like m1 m2) (ht : T1.map Rec.tell = T2.map Rec.tell)
    {k' : Nat} (hV : m1.V.length = m.V.length) (hs : m1.sz = m.sz) (ho : m1.ops ≤ k') (hle : T1.length ≤ k') (hk : m1.kp.length ≤ 20000) (hz : ∀ x ∈ T1, x.zs.length ≤ 100000) : DD w r p q n sz k' w2 := by
  have l1 := s1.lt
  have lF := h.rc.lt
  have lG := h.rt.lt
  have z := c1.size
  have zc := h.chg.size
  have hdis : ∀ j, F1 j → ¬ G j := fun j hj e => by rcases hF j hj with e' | e'; exact h.dis j e' e; have := lG j e; omega
  refine ⟨F1, G2, m1, m2, T1, T2, s1.chg c2 (fun j hj e => hdis j hj e), r2, l, ht, ?_, ?_, ?_, hV.trans h.V, hs.trans h.hsz, ho, hle, hk, hz, (h.chg.trans c1 (fun j hj => .inr (h.fw j hj))).trans c2 (fun j hj => .inr (h.gw j hj))⟩
  · intro j hj e
    rcases hG j e with e' | e'
    · exact hdis j hj e'
    · have := l1 j hj
      omega
  · intro j hj
    rcases hF j hj with e | e
    · exact h.fw j e
    · omega
  · intro j hj
    rcases hG j hj with e | e
    · exact h.gw j e
    · omega
end

/-- The cells of block g stay. -/
def Stays (g : Nat) (X w' : World) : Prop := ∀ (j : Nat) (v : Value), X.cell? ⟨g, j, none⟩ = some v → w'.cell? ⟨g, j, none⟩ = some v

theorem tell_more {T T' : List Rec} (h : T.map Rec.tell = T'.map Rec.tell) {x y : Rec} (hx : x.tell = y.tell) : (T ++ [x]).map Rec.tell = (T' ++ [y]).map Rec.tell := by
  rw [List.map_append, List.map_append, h, List.map_singleton, List.map_singleton, hx]

section
variable {w X : World} {r p q n sz k : Nat} {F G : Nat → Prop} {m m' : Mod} {T T' : List Rec}

theorem D.stays (h : D w r p q n sz k F G m m' T T' X) {w1 : World} {g : Nat} (hg : ¬ F g) (c : Chg F X w1) : Stays g X w1 := fun j v hv => c.cell hv hg

theorem dreboot (h : D w r p q n sz k F G m m' T T' X) : ∃ (y : Bool) (P1 : World → Prop), Calls Try.prog 23 #[.pointer (some ⟨p, 0, none⟩)] X (fun e w1 => e = .returned (.bool y) ∧ P1 w1) ∧
    ∀ w1, P1 w1 → Calls Try.prog 24 #[.pointer (some ⟨q, 0, none⟩)] w1 (fun e w2 => e = .returned (.bool y) ∧ DD w r p q n sz k w2) := by
  obtain ⟨S, s, hS, hst⟩ := h.rc.keep
  refine ⟨!m.up, fun w1 => Rc w1 r p F { m with up := true } T ∧ Chg F X w1, (reboot_any s).mono ?_, ?_⟩
  · rintro e w1 ⟨rfl, s1, c1⟩
    exact ⟨rfl, hst _ _ s1 c1⟩
  rintro w1 ⟨s1, c1⟩
  refine (rreboot_any (h.mid c1)).mono ?_
  rintro e w2 ⟨rfl, r2, c2⟩
  refine ⟨by rw [h.like.up], h.both s1 c1 (fun j hj => .inl hj) r2 c2 (fun j hj => .inl hj) h.like.boot h.tell rfl rfl h.ops h.le h.kp h.zs⟩

theorem dsync (h : D w r p q n sz k F G m m' T T' X) (hk : k ≤ 1000) : ∃ (y : Int) (P1 : World → Prop), Calls Try.prog 17 #[.pointer (some ⟨r, 0, none⟩)] X (fun e w1 => e = .returned (.int .i64 y) ∧ P1 w1) ∧
    ∀ w1, P1 w1 → Calls Try.prog 18 #[.pointer (some ⟨q, 0, none⟩)] w1 (fun e w2 => e = .returned (.int .i64 y) ∧ DD w r p q n sz (k + 1) w2) := by
  have ho : m.ops ≤ 100000000 := by have := h.ops; omega
  have hkp : m.kp.length ≤ 100000000000 := by have := h.kp; omega
  have ho' : m'.ops ≤ 100000000 := by rw [← h.like.ops]; exact ho
  have hkp' : m'.kp.length ≤ 100000000000 := by rw [← h.like.kp]; exact hkp
  have hob := began_ops m
  have hok := h.ops
  have hle := h.le
  by_cases hf : m.fails = true
  · refine ⟨6, fun w1 => Rc w1 r p (Wid F X w1) m.began T ∧ Chg F X w1, tsync_fail h.rc ho hkp hf, ?_⟩
    rintro w1 ⟨s1, c1⟩
    refine (rsync_fail (h.mid c1) ho' hkp' (by rw [← h.like.fails]; exact hf)).mono ?_
    rintro e w2 ⟨rfl, r2, c2⟩
    exact ⟨rfl, h.both s1 c1 wid_sub r2 c2 (fun j hj => .inl hj) h.like.began h.tell (began_sz m).2 (began_sz m).1 (by omega) (by omega) (began_kp m h.kp) h.zs⟩
  · have hf' : m.fails = false := by simpa using hf
    refine ⟨0, fun w1 => ∃ v, Rc w1 r p (Wid F X w1) m.began.sync (T ++ [⟨3, 0, v, []⟩]) ∧ Chg F X w1, (tsync_ok h.rc ho hkp hf' (by omega)).mono ?_, ?_⟩
    · rintro e w1 ⟨v, rfl, s1, c1⟩
      exact ⟨rfl, v, s1, c1⟩
    rintro w1 ⟨v, s1, c1⟩
    refine (rsync_ok (h.mid c1) ho' hkp' (by rw [← h.like.fails]; exact hf')).mono ?_
    rintro e w2 ⟨rfl, r2, c2⟩
    exact ⟨rfl, h.both s1 c1 wid_sub r2 c2 wid_sub h.like.began.sync (tell_more h.tell rfl) (by simp [Mod.sync, Mod.now, redo_length, (began_sz m).2]) (began_sz m).1 (by show m.began.ops ≤ k + 1; omega) (by simp; omega) (began_kp m h.kp) (more_zs h.zs (by simp))⟩

theorem darm (h : D w r p q n sz k F G m m' T T' X) {g : Nat} (hg : ¬ F g) (A : Int) (hA : A ≤ 9223372036854775807) (v : Value) (bs : List Bool) (hv : Lies (Old w) X v (bs.map Value.bool)) (hb : bs.length ≤ 20000) :
    ∃ (y : Bool) (P1 : World → Prop), Calls Try.prog 19 #[.pointer (some ⟨p, 0, none⟩), .int .i64 A, v] X (fun e w1 => e = .returned (.bool y) ∧ P1 w1) ∧
    ∀ w1, P1 w1 → Stays g X w1 ∧ Calls Try.prog 20 #[.pointer (some ⟨q, 0, none⟩), .int .i64 A, v] w1 (fun e w2 => e = .returned (.bool y) ∧ DD w r p q n sz k w2) := by
  by_cases ha : A < 1
  · refine ⟨false, fun w1 => w1 = X, arm_bad A ha v, ?_⟩
    rintro w1 rfl
    refine ⟨fun j u hu => hu, (rarm_bad A ha v).mono ?_⟩
    rintro e w2 ⟨rfl, rfl⟩
    exact ⟨rfl, _, _, _, _, _, _, h⟩
  · obtain ⟨a, rfl⟩ := Int.eq_ofNat_of_zero_le (show 0 ≤ A by omega)
    have hold : ∀ j, Old w j → j < X.heap.size := fun j hj => Nat.lt_of_lt_of_le hj h.chg.size
    obtain ⟨S, s, hS, hst⟩ := h.rc.step
    refine ⟨true, fun w1 => Rc w1 r p (Wid F X w1) { m with arm := a, kp := bs } T ∧ Chg F X w1, (arm_ok s a (by omega) (by omega) v bs hv (by omega) hold).mono ?_, ?_⟩
    · rintro e w1 ⟨rfl, s1, c1⟩
      exact ⟨rfl, hst _ _ _ s1 c1 wid_sub⟩
    rintro w1 ⟨s1, c1⟩
    have hv1 := hv.chg c1 (fun j hj e => absurd hj (Nat.not_lt.2 (h.fw j e)))
    refine ⟨h.stays hg c1, (rarm_ok (h.mid c1) a (by omega) (by omega) v bs hv1 (by omega)).mono ?_⟩
    rintro e w2 ⟨rfl, r2, c2⟩
    exact ⟨rfl, h.both s1 c1 wid_sub r2 c2 wid_sub (h.like.set a bs) h.tell rfl rfl h.ops h.le hb h.zs⟩

theorem dcrash (h : D w r p q n sz k F G m m' T T' X) {g : Nat} (hg : ¬ F g) (hk : k ≤ 1000) (x : Option Addr) (c : Nat) (bs : List Bool) (hv : Lies (Old w) X (.slice x bs.length c) (bs.map Value.bool)) (hb : bs.length ≤ 20000) :
    ∃ (y : Bool) (P1 : World → Prop), Calls Try.prog 21 #[.pointer (some ⟨p, 0, none⟩), .slice x bs.length c] X (fun e w1 => e = .returned (.bool y) ∧ P1 w1) ∧
    ∀ w1, P1 w1 → Stays g X w1 ∧ Calls Try.prog 22 #[.pointer (some ⟨q, 0, none⟩), .slice x bs.length c] w1 (fun e w2 => e = .returned (.bool y) ∧ DD w r p q n sz k w2) := by
  have hok := h.ops
  obtain ⟨S, s, hS, hst⟩ := h.rc.keep
  by_cases hu : m.up = true
  · refine ⟨true, fun w1 => Rc w1 r p F (m.crash bs) T ∧ Chg F X w1, (crash_any s hu (by omega) _ bs hv (by omega) (fun j hj e => absurd hj (Nat.not_lt.2 (h.fw j (hS j e))))).mono ?_, ?_⟩
    · rintro e w1 ⟨rfl, s1, c1⟩
      exact ⟨rfl, hst _ _ s1 c1⟩
    rintro w1 ⟨s1, c1⟩
    have hv1 := hv.chg c1 (fun j hj e => absurd hj (Nat.not_lt.2 (h.fw j e)))
    refine ⟨h.stays hg c1, (rcrash_any (h.mid c1) (by rw [← h.like.up]; exact hu) (by rw [← h.like.ops]; omega) _ bs hv1 (by omega) (fun j hj e => absurd hj (Nat.not_lt.2 (h.gw j e)))).mono ?_⟩
    rintro e w2 ⟨rfl, r2, c2⟩
    exact ⟨rfl, h.both s1 c1 (fun j hj => .inl hj) r2 c2 (fun j hj => .inl hj) (h.like.crash bs) h.tell (by simp [Mod.crash, redo_length]) rfl h.ops h.le (by simp [Mod.crash]) h.zs⟩
  · have hu' : m.up = false := by simpa using hu
    refine ⟨false, fun w1 => w1 = X, crash_down s hu' x _ c, ?_⟩
    rintro w1 rfl
    refine ⟨fun j u hu => hu, (rcrash_down h.rt (by rw [← h.like.up]; exact hu') x _ c).mono ?_⟩
    rintro e w2 ⟨rfl, rfl⟩
    exact ⟨rfl, _, _, _, _, _, _, h⟩

theorem dwrite (h : D w r p q n sz k F G m m' T T' X) {g : Nat} (hg : ¬ F g) (hk : k ≤ 1000) (A : Int) (x : Option Addr) (c : Nat) (zs : List Int) (hv : Lies (Old w) X (.slice x zs.length c) (zs.map (Value.int .u8))) :
    ∃ (y : Int) (P1 : World → Prop), Calls Try.prog 15 #[.pointer (some ⟨r, 0, none⟩), .int .i64 A, .slice x zs.length c] X (fun e w1 => e = .returned (.int .i64 y) ∧ P1 w1) ∧
    ∀ w1, P1 w1 → Stays g X w1 ∧ Calls Try.prog 16 #[.pointer (some ⟨q, 0, none⟩), .int .i64 A, .slice x zs.length c] w1 (fun e w2 => e = .returned (.int .i64 y) ∧ DD w r p q n sz (k + 1) w2) := by
  have ho : m.ops ≤ 100000000 := by have := h.ops; omega
  have hkp : m.kp.length ≤ 100000000000 := by have := h.kp; omega
  have ho' : m'.ops ≤ 100000000 := by rw [← h.like.ops]; exact ho
  have hkp' : m'.kp.length ≤ 100000000000 := by rw [← h.like.kp]; exact hkp
  have hob := began_ops m
  have hok := h.ops
  have hle := h.le
  have hvl := h.like.vlen
  have hsl := h.like.sz
  have hoF : ∀ j, Old w j → ¬ F j := fun j hj e => absurd hj (Nat.not_lt.2 (h.fw j e))
  have hoG : ∀ j, Old w j → ¬ G j := fun j hj e => absurd hj (Nat.not_lt.2 (h.gw j e))
  have hold : ∀ j, Old w j → j < X.heap.size := fun j hj => Nat.lt_of_lt_of_le hj h.chg.size
  by_cases hf : m.fails = true
  · refine ⟨6, fun w1 => Rc w1 r p (Wid F X w1) m.began T ∧ Chg F X w1, twrite_fail h.rc ho hkp hf A x _ c, ?_⟩
    rintro w1 ⟨s1, c1⟩
    refine ⟨h.stays hg c1, (rwrite_fail (h.mid c1) ho' hkp' (by rw [← h.like.fails]; exact hf) A x _ c).mono ?_⟩
    rintro e w2 ⟨rfl, r2, c2⟩
    exact ⟨rfl, h.both s1 c1 wid_sub r2 c2 (fun j hj => .inl hj) h.like.began h.tell (began_sz m).2 (began_sz m).1 (by omega) (by omega) (began_kp m h.kp) h.zs⟩
  · have hf' : m.fails = false := by simpa using hf
    have hf2 : m'.fails = false := by rw [← h.like.fails]; exact hf'
    by_cases hr : 0 ≤ A ∧ A < m.V.length
    · by_cases hl : zs.length = m.sz
      · obtain ⟨a, rfl⟩ := Int.eq_ofNat_of_zero_le hr.1
        have hzl := (by obtain ⟨S, s, _⟩ := h.rc.step; exact now_len s a (by omega) : (m.now.getD a dC).2.length = m.sz ∧ m.sz ≤ 4096).2
        refine ⟨0, fun w1 => ∃ v' v, Rc w1 r p (Wid F X w1) (Mod.put m.began (a, v', zs)) (T ++ [⟨2, a, v, zs⟩]) ∧ Chg F X w1, (twrite_ok h.rc ho hkp hf' (by omega) a (by omega) x c zs hl hv (fun j hj => ⟨hoF j hj, hold j hj⟩)).mono ?_, ?_⟩
        · rintro e w1 ⟨v', v, rfl, s1, c1⟩
          exact ⟨rfl, v', v, s1, c1⟩
        rintro w1 ⟨v1, u1, s1, c1⟩
        refine ⟨h.stays hg c1, (rwrite_ok (h.mid c1) ho' hkp' hf2 a (by omega) _ zs (by omega) (hv.chg c1 hoF) (fun j hj => ⟨hoG j hj, Nat.lt_of_lt_of_le (hold j hj) c1.size⟩)).mono ?_⟩
        rintro e w2 ⟨v2, u2, rfl, r2, c2⟩
        exact ⟨rfl, h.both s1 c1 wid_sub r2 c2 wid_sub (h.like.began.put a v1 v2 zs) (tell_more h.tell rfl) (began_sz m).2 (began_sz m).1 (by show m.began.ops ≤ k + 1; omega) (by simp; omega) (began_kp m h.kp) (more_zs h.zs (by show zs.length ≤ 100000; omega))⟩
      · refine ⟨2, fun w1 => Rc w1 r p (Wid F X w1) m.began T ∧ Chg F X w1, twrite_form h.rc ho hkp hf' A hr x _ c hl, ?_⟩
        rintro w1 ⟨s1, c1⟩
        refine ⟨h.stays hg c1, (rwrite_form (h.mid c1) ho' hkp' hf2 A (by omega) x _ c (by omega)).mono ?_⟩
        rintro e w2 ⟨rfl, r2, c2⟩
        exact ⟨rfl, h.both s1 c1 wid_sub r2 c2 (fun j hj => .inl hj) h.like.began h.tell (began_sz m).2 (began_sz m).1 (by omega) (by omega) (began_kp m h.kp) h.zs⟩
    · refine ⟨1, fun w1 => Rc w1 r p (Wid F X w1) m.began T ∧ Chg F X w1, twrite_out h.rc ho hkp hf' A hr x _ c, ?_⟩
      rintro w1 ⟨s1, c1⟩
      refine ⟨h.stays hg c1, (rwrite_out (h.mid c1) ho' hkp' hf2 A (by omega) x _ c).mono ?_⟩
      rintro e w2 ⟨rfl, r2, c2⟩
      exact ⟨rfl, h.both s1 c1 wid_sub r2 c2 (fun j hj => .inl hj) h.like.began h.tell (began_sz m).2 (began_sz m).1 (by omega) (by omega) (began_kp m h.kp) h.zs⟩

theorem dread (h : D w r p q n sz k F G m m' T T' X) {g : Nat} (hg : ¬ F g) (hk : k ≤ 1000) (A : Int) :
    ∃ (y : Int) (P1 : Value → World → Prop), Calls Try.prog 12 #[.pointer (some ⟨r, 0, none⟩), .int .i64 A] X (fun e w1 => ∃ x l c, e = .returned (.tuple #[.slice x l c, .int .i64 y]) ∧ P1 (.slice x l c) w1) ∧
    ∀ u w1, P1 u w1 → Stays g X w1 ∧ Calls Try.prog 13 #[.pointer (some ⟨q, 0, none⟩), .int .i64 A] w1 (fun e w2 => ∃ x l c, e = .returned (.tuple #[.slice x l c, .int .i64 y]) ∧ DD w r p q n sz (k + 1) w2 ∧
      Calls Try.prog 14 #[u, .slice x l c] w2 fun e w3 => e = .returned (.bool true) ∧ w3 = w2) := by
  have ho : m.ops ≤ 100000000 := by have := h.ops; omega
  have hkp : m.kp.length ≤ 100000000000 := by have := h.kp; omega
  have ho' : m'.ops ≤ 100000000 := by rw [← h.like.ops]; exact ho
  have hkp' : m'.kp.length ≤ 100000000000 := by rw [← h.like.kp]; exact hkp
  have hob := began_ops m
  have hok := h.ops
  have hle := h.le
  have hvl := h.like.vlen
  have hsl := h.like.sz
  by_cases hf : m.fails = true
  · refine ⟨6, fun u w1 => u = .slice none 0 0 ∧ Rc w1 r p (Wid F X w1) m.began T ∧ Chg F X w1, (tread_fail h.rc ho hkp hf A).mono ?_, ?_⟩
    · rintro e w1 ⟨rfl, s1, c1⟩
      exact ⟨_, _, _, rfl, rfl, s1, c1⟩
    rintro u w1 ⟨rfl, s1, c1⟩
    refine ⟨h.stays hg c1, (rread_fail (h.mid c1) ho' hkp' (by rw [← h.like.fails]; exact hf) A).mono ?_⟩
    rintro e w2 ⟨rfl, r2, c2⟩
    exact ⟨_, _, _, rfl, h.both s1 c1 wid_sub r2 c2 (fun j hj => .inl hj) h.like.began h.tell (began_sz m).2 (began_sz m).1 (by omega) (by omega) (began_kp m h.kp) h.zs, bytes_same (J := no) (K := no) (zs := []) (.inl ⟨rfl, rfl⟩) (.inl ⟨rfl, rfl⟩)⟩
  · have hf' : m.fails = false := by simpa using hf
    have hf2 : m'.fails = false := by rw [← h.like.fails]; exact hf'
    by_cases hr : 0 ≤ A ∧ A < m.V.length
    · obtain ⟨a, rfl⟩ := Int.eq_ofNat_of_zero_le hr.1
      have hz := (by obtain ⟨S, s, _⟩ := h.rc.step; exact now_len s a (by omega) : (m.now.getD a dC).2.length = m.sz ∧ m.sz ≤ 4096)
      refine ⟨0, fun u w1 => ∃ b v, u = .slice (some ⟨b, 0, none⟩) m.sz m.sz ∧ X.heap.size ≤ b ∧ w1.heap[b]? = some (.cells ((m.now.getD a dC).2.map (Value.int .u8)).toArray 5 (0, 0)) ∧ Rc w1 r p (Wid F X w1) m.began (T ++ [⟨1, a, v, (m.now.getD a dC).2⟩]) ∧ Chg F X w1, (tread_in h.rc ho hkp hf' (by omega) a (by omega)).mono ?_, ?_⟩
      · rintro e w1 ⟨b, v, rfl, hb, bb, s1, c1⟩
        exact ⟨_, _, _, rfl, b, v, rfl, hb, bb, s1, c1⟩
      rintro u w1 ⟨b, v, rfl, hb, bb, s1, c1⟩
      have HR := rread_in (h.mid c1) ho' hkp' hf2 a (by omega)
      rw [← h.like.now a] at HR
      refine ⟨h.stays hg c1, HR.mono ?_⟩
      rintro e w2 ⟨b2, v2, rfl, hb2, bb2, r2, c2⟩
      have bb3 := c2.heap bb (fun e => by have := h.rt.lt b e; omega)
      refine ⟨_, _, _, rfl, h.both s1 c1 wid_sub r2 c2 wid_sub h.like.began (tell_more h.tell rfl) (began_sz m).2 (began_sz m).1 (by omega) (by simp; omega) (began_kp m h.kp) (more_zs h.zs (by show (m.now.getD a dC).2.length ≤ 100000; omega)), ?_⟩
      have e1 := lies_block bb3 m.sz
      have e2 := lies_block bb2 m'.sz
      rw [List.length_map, hz.1] at e1 e2
      rw [← hsl] at e2 ⊢
      exact bytes_same e1 e2
    · refine ⟨1, fun u w1 => u = .slice none 0 0 ∧ Rc w1 r p (Wid F X w1) m.began T ∧ Chg F X w1, (tread_out h.rc ho hkp hf' A hr).mono ?_, ?_⟩
      · rintro e w1 ⟨rfl, s1, c1⟩
        exact ⟨_, _, _, rfl, rfl, s1, c1⟩
      rintro u w1 ⟨rfl, s1, c1⟩
      refine ⟨h.stays hg c1, (rread_out (h.mid c1) ho' hkp' hf2 A (by omega)).mono ?_⟩
      rintro e w2 ⟨rfl, r2, c2⟩
      exact ⟨_, _, _, rfl, h.both s1 c1 wid_sub r2 c2 (fun j hj => .inl hj) h.like.began h.tell (began_sz m).2 (began_sz m).1 (by omega) (by omega) (began_kp m h.kp) h.zs, bytes_same (J := no) (K := no) (zs := []) (.inl ⟨rfl, rfl⟩) (.inl ⟨rfl, rfl⟩)⟩

theorem dpeek (h : D w r p q n sz k F G m m' T T' X) (hk : k ≤ 1000) (A : Int) :
    ∃ (P1 : Value → World → Prop), Calls Try.prog 29 #[.pointer (some ⟨p, 0, none⟩), .int .i64 A] X (fun e w1 => ∃ x l c, e = .returned (.slice x l c) ∧ P1 (.slice x l c) w1 ∧ Chg no X w1) ∧
    ∀ u w1, P1 u w1 → Calls Try.prog 30 #[.pointer (some ⟨q, 0, none⟩), .int .i64 A] w1 (fun e w2 => ∃ x l c, e = .returned (.slice x l c) ∧ Chg no w1 w2 ∧
      Calls Try.prog 14 #[u, .slice x l c] w2 fun e w3 => e = .returned (.bool true) ∧ w3 = w2) := by
  have hvl := h.like.vlen
  have hsl := h.like.sz
  have hok := h.ops
  obtain ⟨S, s, hS, hst⟩ := h.rc.step
  by_cases hr : 0 ≤ A ∧ A < m.V.length
  · obtain ⟨a, rfl⟩ := Int.eq_ofNat_of_zero_le hr.1
    refine ⟨fun u w1 => u = .slice (some ⟨X.heap.size, 0, none⟩) m.sz m.sz ∧ w1.heap[X.heap.size]? = some (.cells ((m.now.getD a dC).2.map (Value.int .u8)).toArray 5 (0, 0)) ∧ Chg no X w1, (peek_in s a (by omega)).mono ?_, ?_⟩
    · rintro e w1 ⟨rfl, g1, c1⟩
      exact ⟨_, _, _, rfl, ⟨rfl, g1, c1⟩, c1⟩
    rintro u w1 ⟨rfl, g1, c1⟩
    refine (rpeek_in (h.rt.same c1) (by rw [← h.like.ops]; omega) a (by omega)).mono ?_
    rintro e w2 ⟨rfl, g2, c2⟩
    rw [← h.like.now a] at g2
    refine ⟨_, _, _, rfl, c2, ?_⟩
    have hlen := (now_len s a (by omega)).1
    have e1 := lies_block (c2.heap g1 id) m.sz
    have e2 := lies_block g2 m'.sz
    rw [List.length_map, hlen] at e1 e2
    rw [← hsl] at e2 ⊢
    exact bytes_same e1 e2
  · refine ⟨fun u w1 => u = .slice none 0 0 ∧ w1 = X, (peek_out s A hr).mono ?_, ?_⟩
    · rintro e w1 ⟨rfl, rfl⟩
      exact ⟨_, _, _, rfl, ⟨rfl, rfl⟩, Chg.refl no _⟩
    rintro u w1 ⟨rfl, rfl⟩
    refine (rpeek_out h.rt A (by omega)).mono ?_
    rintro e w2 ⟨rfl, rfl⟩
    exact ⟨_, _, _, rfl, Chg.refl no _, bytes_same (J := no) (K := no) (zs := []) (.inl ⟨rfl, rfl⟩) (.inl ⟨rfl, rfl⟩)⟩

theorem dup (h : D w r p q n sz k F G m m' T T' X) : Calls Try.prog 25 #[.pointer (some ⟨p, 0, none⟩)] X (fun e w' => e = .returned (.bool m.up) ∧ w' = X) ∧ Calls Try.prog 26 #[.pointer (some ⟨q, 0, none⟩)] X (fun e w' => e = .returned (.bool m.up) ∧ w' = X) := by
  obtain ⟨S, s, hS, hst⟩ := h.rc.step
  refine ⟨up_any s, ?_⟩
  rw [h.like.up]
  exact rup_any h.rt

theorem dops (h : D w r p q n sz k F G m m' T T' X) : Calls Try.prog 27 #[.pointer (some ⟨p, 0, none⟩)] X fun e w' => e = .returned (.int .i64 m.ops) ∧ w' = X := by
  obtain ⟨S, s, hS, hst⟩ := h.rc.step
  exact ops_any s

/-- The document's store: how many operations were begun, what was recorded. -/
theorem dref (h : D w r p q n sz k F G m m' T T' X) : X.cell? ⟨q, 2, none⟩ = some (.int .i64 m.ops) ∧ ∃ xt ct, X.cell? ⟨q, 8, none⟩ = some (.slice xt T.length ct) ∧ Tra G X (.slice xt T.length ct) T' := by
  have hl := tell_len h.tell
  obtain ⟨gc, I, b, A, K, vf, vk, vt, t, H, _⟩ := h.rt
  have h2 := H.cells.2.2.1
  have h8 := H.cells.2.2.2.2.2.2.2.2
  have ht : T'.length = t := by have := H.trc.1; rw [recs_length] at this; omega
  have htr : Tra G X vt T' := Tra.of_owns (by rw [ht]; exact H.trc) (fun k hk => (H.tpg k hk).2.2.2.1) (fun x hx => (H.bytT x hx).mono H.fi)
  obtain ⟨xt, ct, hv, _⟩ := id htr
  rw [hv] at h8 htr
  rw [← hl] at h8 htr
  rw [← h.like.ops] at h2
  exact ⟨h2, xt, ct, h8, htr⟩
end
end Go.Proofs.Yteehphmedmplkaa.pl
