/- Contracts of Bytes, of the document's Nums and Bytes: a nonce as bytes. -/
import Derived.Test.YtmchjnmmeankgaaSrc
namespace Go.Proofs.Ytmchjnmmeankgaa.st
open Go.ChangeShapes Go.WideShapes Go.ChangeAt Go.RowKit Go.Proofs.Ytmchjnmmeankgaa.hp Go.Proofs.Ytmchjnmmeankgaa.dg
set_option linter.unusedVariables false

theorem wri_new (w : World) : Wri (w.alloc (.cells #[.slice none 0 0, .bool false] 86)) w.heap.size (fun k => k = w.heap.size) [] false :=
  ⟨.slice none 0 0, heap_alloc_new _ _, World.ownsRow_nil _ _ _ _, fun k hk => by simp [Value.ownBlock] at hk, rfl, fun k hk => by subst hk; simp⟩

theorem WAt.back {w0 w1 w' : World} {p : Nat} {F : Nat → Prop} {s : WS} (h : WAt w1 p F s w') (k : Chg no w0 w1) (hl : ∀ b, F b → b < w0.heap.size) : WAt w0 p F s w' := by
  have s1 := k.size
  have s2 := h.2.size
  refine ⟨h.1.wide ?_ ?_, (k.of_no F).then h.2⟩
  · intro b hb
    rcases hb with hb | hb
    · exact .inl hb
    · exact .inr ⟨by omega, hb.2⟩
  · intro b hb
    rcases hb with hb | hb
    · have := hl b hb
      omega
    · exact hb.2

theorem num_at {w0 w1 : World} {p g : Nat} {F : Nat → Prop} {s : WS} (h : Wri w0 p F s.1 s.2) (hl : s.1.length ≤ 90000000) (k : Chg no w0 w1) (a : Int) (ns : List Int) (hn : ns.length ≤ 1000) (hg : w1.heap[g]? = some (.cells (ns.map (Value.int .i64)).toArray 3 (0, 0))) (hgn : w0.heap.size ≤ g) :
    Calls Try.prog 40 #[.pointer (some ⟨p, 0, none⟩), .int .i64 a, .slice (some ⟨g, 0, none⟩) ns.length ns.length] w1 fun e w' => e = .returned (.pointer (some ⟨p, 0, none⟩)) ∧ WAt w0 p F (nums a s ns) w' := by
  have hL := lies_block hg ns.length
  simp only [List.length_map] at hL
  refine (num_any (h.same k) hl a _ ns hL (fun b hb => ⟨fun e => by have := h.lt b e; omega, by subst hb; exact lt_of_block hg⟩) hn).mono ?_
  rintro e w' ⟨rfl, hW⟩
  exact ⟨rfl, hW.back k h.lt⟩

theorem num_new {w : World} {p : Nat} {F : Nat → Prop} {s : WS} (h : Wri w p F s.1 s.2) (hl : s.1.length ≤ 90000000) (a : Int) (ns : List Int) (hn : ns.length ≤ 1000) :
    Calls Try.prog 40 #[.pointer (some ⟨p, 0, none⟩), .int .i64 a, .slice (some ⟨w.heap.size, 0, none⟩) ns.length ns.length] (w.alloc (.cells (ns.map (Value.int .i64)).toArray 3)) fun e w' => e = .returned (.pointer (some ⟨p, 0, none⟩)) ∧ WAt w p F (nums a s ns) w' :=
  num_at h hl ((Chg.refl no w).alloc _) a ns hn (heap_alloc_new _ _) (Nat.le_refl _)

theorem block_lies {w : World} {g : Nat} {zs : List Int} (h : w.heap[g]? = some (.cells (zs.map (Value.int .u8)).toArray 5 (0, 0))) : Lies (fun k => k = g) w (.slice (some ⟨g, 0, none⟩) zs.length zs.length) (zs.map (Value.int .u8)) := by
  have := lies_block h zs.length
  simpa using this

/-- The nonce as bytes. -/
def nbs (g c : Int) : List Int := if may g c then enc g 6 ++ enc c 6 else List.replicate 12 0

theorem nbs_length (g c : Int) : (nbs g c).length = 12 := by
  unfold nbs
  split <;> simp [enc_length]

theorem enc_bytes (n : Int) (k : Nat) : Bytes (enc n k) := by
  induction k with
  | zero => intro x hx; simp [enc] at hx
  | succ k ih =>
    intro x hx
    simp only [enc, List.mem_cons] at hx
    rcases hx with rfl | hx
    · exact digit_byte n k
    · exact ih x hx

theorem Bytes.append {l m : List Int} (hl : Bytes l) (hm : Bytes m) : Bytes (l ++ m) := by
  intro x hx
  rcases List.mem_append.1 hx with h | h
  · exact hl x h
  · exact hm x h

theorem nbs_bytes (g c : Int) : Bytes (nbs g c) := by
  unfold nbs
  split
  · exact (enc_bytes _ _).append (enc_bytes _ _)
  · intro x hx
    have := List.eq_of_mem_replicate hx
    omega

theorem may_of {g c : Int} (h : may g c = true) : 0 ≤ g ∧ g ≤ 1099511627776 ∧ 0 ≤ c ∧ c ≤ 1099511627776 := of_decide_eq_true h

theorem okN6 (n : Int) (h0 : 0 ≤ n) (h1 : n ≤ 1099511627776) : okN 6 n = true := by
  unfold okN
  apply decide_eq_true
  refine ⟨by omega, by omega, by omega, ?_⟩
  have : (2 : Int) ^ (8 * (6 : Int).toNat) = 281474976710656 := by decide
  omega

theorem nums_two (g c : Int) (h : may g c = true) : nums 6 ([], false) [g, c] = (enc g 6 ++ enc c 6, false) := by
  obtain ⟨h0, h1, h2, h3⟩ := may_of h
  have e1 : brk 6 ([], false) = ([], false) := by decide
  unfold nums
  rw [e1]
  simp [stp, okN6 g h0 h1, okN6 c h2 h3]

/-- What Bytes leaves: a new row, in new memory. -/
def Bys (w : World) (zs : List Int) (e : Ending) (w' : World) : Prop := ∃ b, e = .returned (.slice (some ⟨b, 0, none⟩) 12 12) ∧ w.heap.size ≤ b ∧ w'.heap[b]? = some (.cells (zs.map (Value.int .u8)).toArray 5 (0, 0)) ∧ Chg no w w'

set_option maxHeartbeats 1000000 in
theorem bytes_any (w : World) (g c : Int) : Calls Try.prog 29 #[nv g c] w (Bys w (nbs g c)) := by
  have HM := fun w => may_any w g c
  obtain ⟨zs, hzs⟩ : ∃ zs, nbs g c = zs := ⟨_, rfl⟩
  have HZ : Hid (nbs g c = zs) := hzs
  rw [hzs]
  clear hzs
  cases hm : may g c with
  | true =>
    have HT := nums_two g c hm
    have hz : zs = enc g 6 ++ enc c 6 := by
      rw [← HZ.out, nbs, if_pos hm]
    simp only [hm] at HM
    go_enter Try.func29, Try.ntmps29
    go_wp2_with fail
    refine (HM _).mono ?_
    rintro e w1 ⟨rfl, k1⟩
    have s0 := (wri_new (w.alloc (.cells #[.int .i64 g, .int .i64 c] 40))).same k1
    have hsz : (w.alloc (.cells #[.int .i64 g, .int .i64 c] 40)).heap.size = w.heap.size + 1 := by simp
    rw [hsz] at s0
    have g0 : w1.heap[w.heap.size]? = some (.cells #[.int .i64 g, .int .i64 c] 40 (0, 0)) := k1.heap (by rw [Below.heap_alloc _ _ _ (by simp)]; exact heap_alloc_new _ _) id
    obtain ⟨a0, b0⟩ := row_cell (xs := [_, _]) g0 0 _ rfl
    obtain ⟨a1, b1⟩ := row_cell (xs := [_, _]) g0 1 _ rfl
    have K : Chg no w w1 := (((Chg.refl no w).alloc _).alloc _).then k1
    clear k1 g0 hsz HM
    go_wp2_with fail
    refine (num_new (s := ([], false)) s0 (by simp) 6 [g, c] (by simp)).mono ?_
    rintro e w2 ⟨rfl, hW⟩
    rw [HT] at hW
    have hz2 := hW.2.size
    have hz1 := K.size
    have K2 : Chg no w w2 := K.trans hW.2 (fun k hk => .inr (by omega))
    have HS := sealed_ok (n := 12) hW.1 (by omega) (by simp [enc_length])
    have hf : fill (enc g 6 ++ enc c 6) 12 = zs := by
      rw [hz]
      simp [fill, enc_length]
    simp only at HS
    rw [hf] at HS
    clear s0 hW hz hf HT a0 b0 a1 b1
    go_wp2_with fail
    refine HS.mono ?_
    rintro e w3 ⟨rfl, g3, k3⟩
    clear HS
    go_wp2
    go_ret
    exact ⟨_, rfl, K2.size, g3, K2.then k3⟩
  | false =>
    have hz : zs = List.replicate 12 0 := by
      rw [← HZ.out, nbs, if_neg (by simp [hm])]
    simp only [hm] at HM
    go_enter Try.func29, Try.ntmps29
    go_wp2_with fail
    refine (HM _).mono ?_
    rintro e w1 ⟨rfl, k1⟩
    have s0 := (wri_new (w.alloc (.cells #[.int .i64 g, .int .i64 c] 40))).same k1
    have hsz : (w.alloc (.cells #[.int .i64 g, .int .i64 c] 40)).heap.size = w.heap.size + 1 := by simp
    rw [hsz] at s0
    have K : Chg no w w1 := (((Chg.refl no w).alloc _).alloc _).then k1
    have HS := sealed_ok (n := 12) s0 (by omega) (by simp)
    have hf : fill [] 12 = zs := by
      rw [hz]
      simp [fill]
    rw [hf] at HS
    clear k1 hsz HM s0 hf hz
    go_wp2_with fail
    refine HS.mono ?_
    rintro e w3 ⟨rfl, g3, k3⟩
    clear HS
    go_wp2
    go_ret
    exact ⟨_, rfl, K.size, g3, K.then k3⟩

end Go.Proofs.Ytmchjnmmeankgaa.st
