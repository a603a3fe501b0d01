/- Walks of the program: sum.Of, AppendWith. -/
import Derived.Test.YtmefkcbchpjeoaaDoorRefB
import Derived.Test.YtmefkcbchpjeoaaDoorCrc
open Go Go.RowKit
namespace Go.Proofs.YtmefkcbchpjeoaaDoor
namespace Pr
open Mem

/-- The table of half bytes lies in the block of its variable. -/
def Tab (w : World) : Prop := 0 < w.heap.size ∧ ∀ j, j < 16 → w.cell? ⟨0, j, none⟩ = some (.int .u32 ((Sp.halves[j]?.getD 0 : Nat) : Int))
theorem Tab.below {w w' : World} {B : Nat} (h : Tab w) (hb : Below B w w') (hB : 0 < B) : Tab w' :=
  ⟨Nat.lt_of_lt_of_le h.1 hb.size, fun j hj => by rw [hb.cell (p := ⟨0, j, none⟩) hB]; exact h.2 j hj⟩

theorem and15 (x : Nat) (hx : x < 4294967296) : bits BinOp.and IntKind.u32 (x : Int) 15 = ((x % 16 : Nat) : Int) := by
  rw [show (15 : Int) = ((15 : Nat) : Int) from rfl, u32_and_nat _ _ hx (by omega)]
  rw [show x &&& 15 = x % 16 from Nat.and_two_pow_sub_one_eq_mod x 4]
theorem xor_u32 (a b c : Nat) (ha : a < 4294967296) (hb : b < 4294967296) (hc : a ^^^ b = c) : bits BinOp.xor IntKind.u32 (a : Int) (b : Int) = (c : Int) := by
  rw [u32_xor_nat a b ha hb, hc]

theorem xor_16 (a b c : Nat) (ha : a < 4294967296) (hb : b < 4294967296) (hc : (a / 16) ^^^ b = c) : bits BinOp.xor IntKind.u32 ((a : Int) / 16) (b : Int) = (c : Int) := by
  rw [show ((a : Int) / 16) = ((a / 16 : Nat) : Int) from by omega]
  exact xor_u32 _ _ _ (by omega) hb hc
theorem not_u32 (x : Nat) (hx : x < 4294967296) : bits BinOp.xor IntKind.u32 IntKind.u32.max (x : Int) = ((x ^^^ 4294967295 : Nat) : Int) := by
  rw [show IntKind.u32.max = ((4294967295 : Nat) : Int) from rfl]
  exact xor_u32 4294967295 x _ (by omega) hx (Nat.xor_comm _ _)

set_option maxHeartbeats 400000 in
theorem of_any (p : Option Addr) (B n c : Nat) (xs : List Nat) (w : World) (hr : Rd B w (.slice p n c) (By xs)) (hx : ∀ x ∈ xs, x < 256) (hn : n ≤ 100000000000000) (hT : Tab w) :
    Calls Tryd.prog 68 #[.slice p n c] w fun e w' => e = .returned (.int .u32 (Sp.sum xs : Nat)) ∧ w' = w := by
  obtain ⟨hl, hlc⟩ := hr.len
  rw [By_len] at hl
  have HL : Hid (n = xs.length) := hl
  have hfin : Hid (Sp.sum xs = Sp.quick xs n ^^^ 4294967295) := by rw [hl, Sp.quick_eq hx]; rfl
  have HR := hide hr
  have HX := hide hx
  have HT := hide hT
  clear hl hr hx hT
  go_enter Tryd.func68, Tryd.ntmps68
  go_wp2
  go_loop [3, 8] (fun h i => ∃ k : Nat, k ≤ n ∧ i = .int .i64 k ∧ h = .int .u32 (Sp.quick xs k : Nat)) (fun _ i => n - (intOf i).toNat)
  case atStart => exact ⟨0, Nat.zero_le _, rfl, rfl⟩
  case round =>
    obtain ⟨k, hk, rfl, rfl⟩ := hrel
    have hs := Sp.quick_lt (unhide HX) k
    by_cases hlt : k < n
    · have hlt' : k < xs.length := by rw [← HL.out]; exact hlt
      obtain ⟨b, o, rfl, hb, hc⟩ := (unhide HR).at k _ (By_at xs k hlt')
      have hxk : xs[k] < 256 := unhide HX _ (List.getElem_mem hlt')
      have HS : Hid (Sp.quick xs (k + 1) = Sp.hop (Sp.hop (Sp.quick xs k ^^^ xs[k]))) := by simp [Hid, Sp.quick, hlt']
      generalize hT9 : Sp.quick xs (k + 1) = t at *
      have HT9 := hide hT9
      clear hT9
      generalize Sp.quick xs k = s at *
      generalize xs[k] = x at *
      obtain ⟨x1, h1⟩ : ∃ x1, s ^^^ x = x1 := ⟨_, rfl⟩
      have hx1 : x1 < 4294967296 := by rw [← h1]; exact Nat.xor_lt_two_pow (n := 32) hs (by omega)
      have e1 := xor_u32 s x x1 hs (by omega) h1
      have e2 := and15 x1 hx1
      have hm1 : x1 % 16 < 16 := Nat.mod_lt _ (by omega)
      have ht1 := (unhide HT).2 _ hm1
      obtain ⟨x2, h2⟩ : ∃ x2, Sp.hop x1 = x2 := ⟨_, rfl⟩
      have hx2 : x2 < 4294967296 := by rw [← h2]; exact Sp.hop_lt hx1
      have e3 := xor_16 x1 (Sp.halves[x1 % 16]?.getD 0) x2 hx1 (Sp.halves_lt _ hm1) h2
      have e4 := and15 x2 hx2
      have hm2 : x2 % 16 < 16 := Nat.mod_lt _ (by omega)
      have ht2 := (unhide HT).2 _ hm2
      obtain ⟨x3, h3⟩ : ∃ x3, Sp.hop x2 = x3 := ⟨_, rfl⟩
      have e5 := xor_16 x2 (Sp.halves[x2 % 16]?.getD 0) x3 hx2 (Sp.halves_lt _ hm2) h3
      have HF : Hid (t = x3) := by rw [Hid, HS.out, h1, h2, h3]
      clear HS h1 h2 h3
      generalize hg1 : Sp.halves[x1 % 16]?.getD 0 = t1 at *
      generalize hg2 : Sp.halves[x2 % 16]?.getD 0 = t2 at *
      clear hg1 hg2
      go_wp2
      go_round
      case rel => exact ⟨k + 1, by omega, by go_num, by rw [unhide HT9, HF.out]⟩
      case measure => simp [intOf]; omega
    · have he : k = n := by omega
      subst he
      go_wp2
      go_ret
      exact ⟨ret_int (by rw [hfin.out]; exact not_u32 _ hs), rfl⟩

/-- Bytes put behind a row of the caller's own, and their sum. -/
theorem with_end {w w1 w2 : World} {base : Nat} {ys xs : List Nat} {h : Nat} {v0 v1 v2 : Value} {o : Obj} (_hb0 : base ≤ w.heap.size) (hs : Sp.sum xs = h) (_hown0 : w.ownsRow base 5 1 v0 ys.length (By ys))
    (_hown1 : w1.ownsRow base 5 1 v1 (ys.length + (By xs).length) (By ys ++ By xs)) (hg1 : w.grownBy w1 v0.ownBlock) (hb1 : v1.ownBlock = v0.ownBlock ∨ v1.ownBlock = some w.heap.size)
    (hown2 : w2.ownsRow base 5 1 v2 (ys.length + (By xs).length + 4) (By ys ++ By xs ++ [Value.int .u8 ((h : Int) % 256), .int .u8 ((h : Int) / 256 % 256), .int .u8 ((h : Int) / 65536 % 256), .int .u8 ((h : Int) / 16777216)]))
    (hg2 : (w1.alloc o).grownBy w2 v1.ownBlock) (hb2 : v2.ownBlock = v1.ownBlock ∨ v2.ownBlock = some (w1.alloc o).heap.size) :
    w2.ownsRow base 5 1 v2 (ys ++ Sp.sealed xs).length (By (ys ++ Sp.sealed xs)) ∧ w.heap.size ≤ w2.heap.size ∧ w.grownBy w2 v0.ownBlock ∧ (v2.ownBlock = v0.ownBlock ∨ ∃ k, w.heap.size ≤ k ∧ v2.ownBlock = some k) := by
  rw [Rf.tail4_cells, ← By_app, ← By_app, By_len, ← hs] at hown2
  have s1 := hg1.size
  have s2 := hg2.size
  simp at s2
  refine ⟨?_, by omega, ?_, ?_⟩
  · rw [show ys ++ Sp.sealed xs = ys ++ xs ++ Sp.tail4 (Sp.sum xs) from by rw [List.append_assoc]; rfl]
    rw [show (ys ++ xs ++ Sp.tail4 (Sp.sum xs)).length = ys.length + xs.length + 4 from by simp [Sp.tail4]; omega]
    exact hown2
  · refine ⟨?_, ?_, ?_, by omega, ?_⟩
    · exact hg2.os.trans hg1.os
    · exact hg2.tape.trans hg1.tape
    · exact hg2.output.trans hg1.output
    · intro k hk hne
      have e1 : (w1.alloc o).heap[k]? = w1.heap[k]? := Below.heap_alloc _ _ _ (by omega)
      rw [hg2.block k (by simp; omega) ?_, e1, hg1.block k hk hne]
      intro e
      rcases hb1 with h | h
      · exact hne (e.trans h)
      · rw [h] at e
        simp at e
        omega
  · rcases hb2 with h | h
    · rcases hb1 with h' | h'
      · exact .inl (h.trans h')
      · exact .inr ⟨_, Nat.le_refl _, h.trans h'⟩
    · exact .inr ⟨_, by simp; omega, h⟩

set_option maxHeartbeats 400000 in
theorem with_any (base : Nat) (v0 : Value) (ys : List Nat) (p : Option Addr) (B n c : Nat) (xs : List Nat) (w : World) (hr : Rd B w (.slice p n c) (By xs)) (hx : ∀ x ∈ xs, x < 256) (hn : n ≤ 1000000000000) (hT : Tab w) (hown0 : w.ownsRow base 5 1 v0 ys.length (By ys)) (hny : ys.length ≤ 1000000000000) (hb0 : base ≤ w.heap.size) :
    Calls Tryd.prog 50 #[v0, .slice p n c] w fun e w' => ∃ v, e = .returned v ∧ (w'.ownsRow base 5 1 v (ys ++ Sp.sealed xs).length (By (ys ++ Sp.sealed xs)) ∧ w.heap.size ≤ w'.heap.size ∧ w.grownBy w' v0.ownBlock ∧ (v.ownBlock = v0.ownBlock ∨ ∃ k, w.heap.size ≤ k ∧ v.ownBlock = some k)) := by
  obtain ⟨hl, hlc⟩ := hr.len
  rw [By_len] at hl
  have HL : Hid (n = xs.length) := hl
  have hs := Sp.sum_lt xs
  have HB := hide (of_any p B n c xs w hr hx (by omega) hT)
  have HR := hide hr
  have HO := hide hown0
  clear hl hr hx hT hown0
  generalize hSS : Sp.sum xs = h at *
  have HSS := hide hSS
  clear hSS
  go_enter Tryd.func50, Tryd.ntmps50
  go_wp2_with (first
    | (go_at_call 68; refine at_same (unhide HB) ?_)
    | (at_builtin; refine wpList_app _ rfl (.tmp 8) (.tmp 9) 49 rfl base 5 (.int .u8 0) 1 Tryd.underlying49 Ty.u8 rfl v0 _ _ rfl (unhide HO) (.slice p n c) (By xs) rfl ⟨B, unhide HR⟩ (one_By xs) (by rw [By_len, ← HL.out]; unfold maxLen; omega) (by rw [By_len, ← HL.out]; omega) hb0 ?_; intro v1 w1 hown1 hg1 hb1)
    | (at_builtin; refine wpList_app _ rfl (.tmp 11) (.tmp 23) 49 rfl base 5 (.int .u8 0) 1 Tryd.underlying49 Ty.u8 rfl v1 _ _ rfl (hown1.alloc _) _ _ rfl ⟨_, Rd.lit w1 [Value.int .u8 ((h : Int) % 256), .int .u8 ((h : Int) / 256 % 256), .int .u8 ((h : Int) / 65536 % 256), .int .u8 ((h : Int) / 16777216)] 5⟩ (Rf.one_four _ _ _ _) (by rw [By_len, ← HL.out]; unfold maxLen; simp; omega) (by rw [By_len, ← HL.out]; simp; omega) (by have := hg1.size; simp; omega) ?_; intro v2 w2 hown2 hg2 hb2))
  go_ret
  exact ⟨v2, rfl, with_end hb0 (unhide HSS) (unhide HO) hown1 hg1 hb1 hown2 hg2 hb2⟩
end Pr
end Go.Proofs.YtmefkcbchpjeoaaDoor
