/- One recorder, whatever is done to it: how many are recorded. -/
import Derived.Test.YteehphmedmplkaaFirst
namespace Go.Proofs.Yteehphmedmplkaa.pl
open Go.ChangeShapes Go.WideShapes Go.ChangeAt Go.RowKit Go.Proofs.Yteehphmedmplkaa.hp Go.Proofs.Yteehphmedmplkaa.md Go.Proofs.Yteehphmedmplkaa.st
set_option linter.unusedVariables false

/-- What the law carries: the recorder at r; at most k operations were begun, n are recorded. -/
structure E (w : World) (r p k n : Nat) (F : Nat → Prop) (m : Mod) (T : List Rec) (wr : World) : Prop where
  rc : Rc wr r p F m T
  fw : ∀ j, F j → w.heap.size ≤ j
  ops : m.ops ≤ k
  len : T.length = n
  le : n ≤ m.ops
  kp : m.kp.length ≤ 20000
  zs : ∀ x ∈ T, x.zs.length ≤ 100000
  chg : Chg no w wr

def EE (w : World) (r p k n : Nat) (wr : World) : Prop := ∃ F m T, E w r p k n F m T wr

section
variable {w X w1 w2 : World} {r p k n : Nat} {F F1 : Nat → Prop} {m m1 : Mod} {T T1 : List Rec}

theorem E.same (h : E w r p k n F m T X) (c : Chg no X w1) : E w r p k n F m T w1 := ⟨h.rc.same c, h.fw, h.ops, h.len, h.le, h.kp, h.zs, h.chg.then c⟩

theorem EE.same (h : EE w r p k n X) (c : Chg no X w1) : EE w r p k n w1 := by
  obtain ⟨F, m, T, h⟩ := h
  exact ⟨F, m, T, h.same c⟩

theorem E.next (h : E w r p k n F m T X) {k' n' : Nat} (s : Rc w1 r p F1 m1 T1) (c : Chg F X w1) (hF : ∀ j, F1 j → F j ∨ X.heap.size ≤ j) (ho : m1.ops ≤ k') (hl : T1.length = n') (hle : n' ≤ m1.ops) (hkp : m1.kp.length ≤ 20000) (hz : ∀ x ∈ T1, x.zs.length ≤ 100000) : EE w r p k' n' w1 := by
  have zc := h.chg.size
  refine ⟨F1, m1, T1, s, ?_, ho, hl, hle, hkp, hz, h.chg.trans c (fun j hj => .inr (h.fw j hj))⟩
  intro j hj
  rcases hF j hj with e | e
  · exact h.fw j e
  · omega

theorem began_kp (m : Mod) (h : m.kp.length ≤ 20000) : m.began.kp.length ≤ 20000 := by
  unfold Mod.began
  split
  · split
    · simp [Mod.crash]
    · exact h
  · exact h

theorem began_mono (m : Mod) : m.ops ≤ m.began.ops := by
  unfold Mod.began
  split
  · split <;> simp [Mod.crash]
  · exact Nat.le_refl _

theorem began_more (m : Mod) (h : m.fails = false) : m.began.ops = m.ops + 1 := by rw [(began_ok m h).1]

theorem more_zs {T : List Rec} {x : Rec} (h : ∀ x ∈ T, x.zs.length ≤ 100000) (hx : x.zs.length ≤ 100000) : ∀ y ∈ T ++ [x], y.zs.length ≤ 100000 := by
  intro y hy
  simp only [List.mem_append, List.mem_singleton] at hy
  rcases hy with hy | rfl
  · exact h y hy
  · exact hx

/-- What an operation answers, and how many are recorded behind it. -/
def Ans (w : World) (r p k n : Nat) (y : Int) (w1 : World) : Prop := (y = 0 ∧ EE w r p k (n + 1) w1) ∨ (y ≠ 0 ∧ EE w r p k n w1)

theorem esync (h : E w r p k n F m T X) (hk : k ≤ 1000) : Calls Try.prog 17 #[.pointer (some ⟨r, 0, none⟩)] X (fun e w1 => ∃ y, e = .returned (.int .i64 y) ∧ Ans w r p (k + 1) n y w1) := by
  have ho : m.ops ≤ 100000000 := by have := h.ops; omega
  have hkp : m.kp.length ≤ 100000000000 := by have := h.kp; omega
  have hob := began_ops m
  have hok := h.ops
  have hle := h.le
  have hlen := h.len
  have hm := began_mono m
  by_cases hf : m.fails = true
  · refine (tsync_fail h.rc ho hkp hf).mono ?_
    rintro e w1 ⟨rfl, s1, c1⟩
    exact ⟨6, rfl, .inr ⟨by omega, h.next s1 c1 wid_sub (by omega) h.len (by omega) (began_kp m h.kp) h.zs⟩⟩
  · have hf' : m.fails = false := by simpa using hf
    have hb := began_more m hf'
    refine (tsync_ok h.rc ho hkp hf' (by omega)).mono ?_
    rintro e w1 ⟨v, rfl, s1, c1⟩
    exact ⟨0, rfl, .inl ⟨rfl, h.next s1 c1 wid_sub (by show m.began.ops ≤ k + 1; omega) (by simp [hlen]) (by show n + 1 ≤ m.began.ops; omega) (began_kp m h.kp) (more_zs h.zs (by simp))⟩⟩

theorem eread (h : E w r p k n F m T X) (hk : k ≤ 1000) (A : Int) : Calls Try.prog 12 #[.pointer (some ⟨r, 0, none⟩), .int .i64 A] X (fun e w1 => ∃ x l c y, e = .returned (.tuple #[.slice x l c, .int .i64 y]) ∧ Ans w r p (k + 1) n y w1) := by
  have ho : m.ops ≤ 100000000 := by have := h.ops; omega
  have hkp : m.kp.length ≤ 100000000000 := by have := h.kp; omega
  have hob := began_ops m
  have hok := h.ops
  have hle := h.le
  have hlen := h.len
  have hm := began_mono m
  by_cases hf : m.fails = true
  · refine (tread_fail h.rc ho hkp hf A).mono ?_
    rintro e w1 ⟨rfl, s1, c1⟩
    exact ⟨_, _, _, 6, rfl, .inr ⟨by omega, h.next s1 c1 wid_sub (by omega) h.len (by omega) (began_kp m h.kp) h.zs⟩⟩
  · have hf' : m.fails = false := by simpa using hf
    have hb := began_more m hf'
    by_cases hr : 0 ≤ A ∧ A < m.V.length
    · obtain ⟨a, rfl⟩ := Int.eq_ofNat_of_zero_le hr.1
      have hz := (by obtain ⟨S, s, _⟩ := h.rc.step; exact now_len s a (by omega) : (m.now.getD a dC).2.length = m.sz ∧ m.sz ≤ 4096)
      refine (tread_in h.rc ho hkp hf' (by omega) a (by omega)).mono ?_
      rintro e w1 ⟨g, v, rfl, hg, _, s1, c1⟩
      exact ⟨_, _, _, 0, rfl, .inl ⟨rfl, h.next s1 c1 wid_sub (by omega) (by simp [hlen]) (by omega) (began_kp m h.kp) (more_zs h.zs (by show (m.now.getD a dC).2.length ≤ 100000; omega))⟩⟩
    · refine (tread_out h.rc ho hkp hf' A hr).mono ?_
      rintro e w1 ⟨rfl, s1, c1⟩
      exact ⟨_, _, _, 1, rfl, .inr ⟨by omega, h.next s1 c1 wid_sub (by omega) h.len (by omega) (began_kp m h.kp) h.zs⟩⟩

theorem ewrite (h : E w r p k n F m T X) (hk : k ≤ 1000) (A : Int) (x : Option Addr) (c : Nat) (zs : List Int) (hv : Lies (Old w) X (.slice x zs.length c) (zs.map (Value.int .u8))) :
    Calls Try.prog 15 #[.pointer (some ⟨r, 0, none⟩), .int .i64 A, .slice x zs.length c] X (fun e w1 => ∃ y, e = .returned (.int .i64 y) ∧ Ans w r p (k + 1) n y w1) := by
  have ho : m.ops ≤ 100000000 := by have := h.ops; omega
  have hkp : m.kp.length ≤ 100000000000 := by have := h.kp; omega
  have hob := began_ops m
  have hok := h.ops
  have hle := h.le
  have hlen := h.len
  have hm := began_mono m
  have hoF : ∀ j, Old w j → ¬ F j := fun j hj e => absurd hj (Nat.not_lt.2 (h.fw j e))
  have hold : ∀ j, Old w j → j < X.heap.size := fun j hj => Nat.lt_of_lt_of_le hj h.chg.size
  by_cases hf : m.fails = true
  · refine (twrite_fail h.rc ho hkp hf A x _ c).mono ?_
    rintro e w1 ⟨rfl, s1, c1⟩
    exact ⟨6, rfl, .inr ⟨by omega, h.next s1 c1 wid_sub (by omega) h.len (by omega) (began_kp m h.kp) h.zs⟩⟩
  · have hf' : m.fails = false := by simpa using hf
    have hb := began_more m hf'
    by_cases hr : 0 ≤ A ∧ A < m.V.length
    · by_cases hl : zs.length = m.sz
      · obtain ⟨a, rfl⟩ := Int.eq_ofNat_of_zero_le hr.1
        have hz := (by obtain ⟨S, s, _⟩ := h.rc.step; exact now_len s a (by omega) : (m.now.getD a dC).2.length = m.sz ∧ m.sz ≤ 4096)
        refine (twrite_ok h.rc ho hkp hf' (by omega) a (by omega) x c zs hl hv (fun j hj => ⟨hoF j hj, hold j hj⟩)).mono ?_
        rintro e w1 ⟨v, u, rfl, s1, c1⟩
        exact ⟨0, rfl, .inl ⟨rfl, h.next s1 c1 wid_sub (by show m.began.ops ≤ k + 1; omega) (by simp [hlen]) (by show n + 1 ≤ m.began.ops; omega) (began_kp m h.kp) (more_zs h.zs (by show zs.length ≤ 100000; omega))⟩⟩
      · refine (twrite_form h.rc ho hkp hf' A hr x _ c hl).mono ?_
        rintro e w1 ⟨rfl, s1, c1⟩
        exact ⟨2, rfl, .inr ⟨by omega, h.next s1 c1 wid_sub (by omega) h.len (by omega) (began_kp m h.kp) h.zs⟩⟩
    · refine (twrite_out h.rc ho hkp hf' A hr x _ c).mono ?_
      rintro e w1 ⟨rfl, s1, c1⟩
      exact ⟨1, rfl, .inr ⟨by omega, h.next s1 c1 wid_sub (by omega) h.len (by omega) (began_kp m h.kp) h.zs⟩⟩

/-- A bool, as one ending. -/
def Bo (P : World → Prop) (e : Ending) (w1 : World) : Prop := ∃ b, e = .returned (.bool b) ∧ P w1

theorem ereboot (h : E w r p k n F m T X) : Calls Try.prog 23 #[.pointer (some ⟨p, 0, none⟩)] X (Bo (EE w r p k n)) := by
  obtain ⟨S, s, hS, hst⟩ := h.rc.keep
  refine (reboot_any s).mono ?_
  rintro e w1 ⟨rfl, s1, c1⟩
  obtain ⟨t1, k1⟩ := hst _ _ s1 c1
  exact ⟨_, rfl, h.next t1 k1 (fun j hj => .inl hj) h.ops h.len h.le h.kp h.zs⟩

theorem earm (h : E w r p k n F m T X) (A : Int) (hA : A ≤ 9223372036854775807) (x : Option Addr) (c : Nat) (bs : List Bool) (hv : Lies (Old w) X (.slice x bs.length c) (bs.map Value.bool)) (hb : bs.length ≤ 20000) :
    Calls Try.prog 19 #[.pointer (some ⟨p, 0, none⟩), .int .i64 A, .slice x bs.length c] X (Bo (EE w r p k n)) := by
  obtain ⟨S, s, hS, hst⟩ := h.rc.step
  by_cases ha : A < 1
  · refine (arm_bad A ha _).mono ?_
    rintro e w1 ⟨rfl, rfl⟩
    exact ⟨_, rfl, F, m, T, h⟩
  · obtain ⟨a, rfl⟩ := Int.eq_ofNat_of_zero_le (show 0 ≤ A by omega)
    have hold : ∀ j, Old w j → j < X.heap.size := fun j hj => Nat.lt_of_lt_of_le hj h.chg.size
    refine (arm_ok s a (by omega) (by omega) _ bs hv (by omega) hold).mono ?_
    rintro e w1 ⟨rfl, s1, c1⟩
    obtain ⟨t1, k1⟩ := hst _ _ _ s1 c1 wid_sub
    exact ⟨_, rfl, h.next t1 k1 wid_sub h.ops h.len h.le hb h.zs⟩

theorem ecrash (h : E w r p k n F m T X) (hk : k ≤ 1000) (x : Option Addr) (c : Nat) (bs : List Bool) (hv : Lies (Old w) X (.slice x bs.length c) (bs.map Value.bool)) (hb : bs.length ≤ 20000) :
    Calls Try.prog 21 #[.pointer (some ⟨p, 0, none⟩), .slice x bs.length c] X (Bo (EE w r p k n)) := by
  obtain ⟨S, s, hS, hst⟩ := h.rc.keep
  have hok := h.ops
  by_cases hu : m.up = true
  · refine (crash_any s hu (by omega) _ bs hv (by omega) (fun j hj e => absurd hj (Nat.not_lt.2 (h.fw j (hS j e))))).mono ?_
    rintro e w1 ⟨rfl, s1, c1⟩
    obtain ⟨t1, k1⟩ := hst _ _ s1 c1
    exact ⟨_, rfl, h.next t1 k1 (fun j hj => .inl hj) h.ops h.len h.le (by simp [Mod.crash]) h.zs⟩
  · have hu' : m.up = false := by simpa using hu
    refine (crash_down s hu' x _ c).mono ?_
    rintro e w1 ⟨rfl, rfl⟩
    exact ⟨_, rfl, F, m, T, h⟩

theorem eops (h : E w r p k n F m T X) : Calls Try.prog 27 #[.pointer (some ⟨p, 0, none⟩)] X fun e w' => e = .returned (.int .i64 m.ops) ∧ w' = X := by
  obtain ⟨S, s, hS, hst⟩ := h.rc.step
  exact ops_any s
end

theorem ops_later {w w' : World} {a : Option Addr} {len : Nat} {O : Nat → OpA} (h : OpsAt w a len O) (c : Chg no w w') : OpsAt w' a len O := by
  intro i hi
  obtain ⟨x, rfl, hx, e0, e1, e2, e3, l2, l3, hw⟩ := h i hi
  have ho : ∀ j, Old w j → Old w' j := fun j hj => Nat.lt_of_lt_of_le hj c.size
  exact ⟨x, rfl, ho _ hx, c.cell e0 id, c.cell e1 id, c.cell e2 id, c.cell e3 id, (l2.chg c (fun _ _ h => h)).mono ho, (l3.chg c (fun _ _ h => h)).mono ho, hw⟩

end Go.Proofs.Yteehphmedmplkaa.pl
