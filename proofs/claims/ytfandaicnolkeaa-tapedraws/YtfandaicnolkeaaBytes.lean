/- The contract of oubref.Bytes: two slices of the same bytes are told alike. -/
import Derived.Test.YtfandaicnolkeaaPads
import Derived.Laws.BytesArg
namespace Go.Proofs.Ytfandaicnolkeaa.tp
open Go.ChangeShapes Go.WideShapes Go.ChangeAt Go.RowKit Go.Proofs.Ytfandaicnolkeaa.hp
set_option linter.unusedVariables false

theorem Arg.of_owns {k : IntKind} {w : World} {base : Nat} {e : TypeId} {a : Option Addr} {n c : Nat} {zs : List Int} (h : w.ownsRow base e 1 (.slice a n c) n (zs.map (Value.int k))) : Arg k w a n c zs := by
  have hl : zs.length = n := by have := h.1; simpa using this
  rcases h.2 with ⟨hv, hn⟩ | ⟨g, cap, cur, hv, hb, hg, hc, hm, hs, ht⟩
  · simp at hv
    obtain ⟨rfl, rfl, rfl⟩ := hv
    exact .inl ⟨rfl, rfl, rfl, List.eq_nil_of_length_eq_zero hl⟩
  · simp at hv
    obtain ⟨rfl, rfl⟩ := hv
    refine .inr ⟨_, rfl, hl, fun i hi => ?_⟩
    have := h.cellAt i (by omega)
    rw [Addr.add_lit, Nat.zero_add, this, List.getElem?_map, List.getD_eq_getElem?_getD, List.getElem?_eq_getElem (by omega)]
    rfl

theorem Arg.take {k : IntKind} {w : World} {x : Addr} {len cap : Nat} {zs : List Int} (h : Arg k w (some x) len cap zs) (m c : Nat) (hm : m ≤ len) : Arg k w (some x) m c (zs.take m) := by
  rcases h with ⟨h, _⟩ | ⟨y, hy, hz, hc⟩
  · cases h
  · cases hy
    refine .inr ⟨_, rfl, by simp; omega, fun i hi => ?_⟩
    rw [hc i (by omega), List.getD_eq_getElem?_getD, List.getD_eq_getElem?_getD, List.getElem?_take_of_lt hi]

theorem conv_arg {w : World} {a : Option Addr} {len cap : Nat} {zs : List Int} (h : Arg .u8 w a len cap zs) :
    (convert 23 9 (.slice a len cap)).run Try.prog w = .ok (.string (strOfNums zs)) w := by
  rcases h with ⟨rfl, rfl, rfl, rfl⟩ | ⟨x, rfl, hz, hc⟩
  · rw [run_convert_bytes_nil w 23 5 Try.underlying23 Try.underlying5 0 0 9 Try.underlying9]
    rfl
  · have hl : (loadCells x len).run Try.prog w = .ok (zs.map (Value.int .u8)).toArray w := by
      have := run_loadCells_list (P := Try.prog) w x (zs.map (Value.int .u8)) (fun j v hj => by
        rw [List.getElem?_map] at hj
        obtain ⟨z, hz', rfl⟩ := Option.map_eq_some_iff.1 hj
        have hlt : j < zs.length := (List.getElem?_eq_some_iff.1 hz').1
        have := hc j (by omega)
        rw [List.getD_eq_getElem?_getD, hz'] at this
        exact this)
      simpa [hz] using this
    rw [run_convert_bytes_string w 23 9 5 _ len cap Try.underlying23 Try.underlying5 Try.underlying9, run_bytesToString w _ len cap zs hl, foldl_push_bytes]
    simp [strOfNums, ByteArray.empty, ByteArray.emptyWithCapacity]
    rfl

theorem bytes_same {w : World} {a b : Option Addr} {len cap len' cap' : Nat} {zs : List Int} (h : Arg .u8 w a len cap zs) (h' : Arg .u8 w b len' cap' zs) :
    Calls Try.prog 16 #[.slice a len cap, .slice b len' cap'] w fun e w' => e = .returned (.bool true) ∧ w' = w := by
  have e1 := conv_arg h
  have e2 := conv_arg h'
  clear h h'
  go_enter Try.func16, Try.ntmps16
  go_wp2
  go_ret
  exact ⟨rfl, rfl⟩

theorem pads_at {w : World} {p d : Nat} {zs : List Int} {v : Value} {lo hi : Nat} (h : Tp 50 5 .u8 w p d zs v lo hi) (hd : d ≤ 100000000) (n : Nat) (n' : Int) (hn : n' = n) (h1 : 1 ≤ n) (h2 : n ≤ 1048576) :
    Calls Try.prog 17 #[.pointer (some ⟨p, 0, none⟩), .int .i64 n'] w fun e w' => e = .returned (.slice (some ⟨w.heap.size, 0, none⟩) n n) ∧ w'.ownsRow w.heap.size 5 1 (.slice (some ⟨w.heap.size, 0, none⟩) n n) n ((padsOf zs d n).map (Value.int .u8)) ∧
      Tp 50 5 .u8 w' p (d + n) zs v lo hi ∧ Chg [p] w w' := by
  subst hn
  exact pads_draw h hd n h1 h2

theorem padsOf_length (zs : List Int) (d n : Nat) : (padsOf zs d n).length = n := by simp [padsOf]

theorem padsOf_get (zs : List Int) (d n i : Nat) (hi : i < n) : (padsOf zs d n).getD i 0 = zs.getD (d + i) 0 := by
  simp [padsOf, List.getD_eq_getElem?_getD, List.getElem?_map, List.getElem?_range hi]

theorem zero_at {w : World} {g : Nat} {zs : List Int} {d n c k : Nat} (h : Arg .u8 w (some ⟨g, 0, none⟩) n c (padsOf zs d n)) (hk : zs.length ≤ d + k) (hn : k < n) : w.cell? ⟨g, k, none⟩ = some (.int .u8 0) := by
  rcases h with ⟨h, _⟩ | ⟨y, hy, hz, hc⟩
  · cases h
  · cases hy
    have := hc k hn
    rw [padsOf_get zs d n k hn, Addr.add_lit, Nat.zero_add, List.getD_eq_getElem?_getD, List.getElem?_eq_none hk] at this
    exact this

theorem padsOf_front (zs : List Int) (n : Nat) (h : zs.length ≤ n) : (padsOf zs 0 n).take zs.length = zs := by
  apply List.ext_getElem
  · simp [padsOf]; omega
  · intro i h1 h2
    simp [padsOf]
    rw [List.getElem?_eq_getElem h2]
    rfl
end Go.Proofs.Ytfandaicnolkeaa.tp
