/- Walks: Sealed, Bits. -/
import Derived.Test.YtmefkcbchpjeoaaDoorRefA
import Derived.Test.YtmefkcbchpjeoaaDoorTypes
open Go Go.RowKit
namespace Go.Proofs.YtmefkcbchpjeoaaDoor
namespace Rf
open Mem

theorem tail4_cells (h : Nat) : [Value.int .u8 ((h : Int) % 256), .int .u8 ((h : Int) / 256 % 256), .int .u8 ((h : Int) / 65536 % 256), .int .u8 ((h : Int) / 16777216)] = By (Sp.tail4 h) := by
  simp [By, Sp.tail4]

theorem one_four (a b c d : Int) : ∀ u ∈ [Value.int .u8 a, .int .u8 b, .int .u8 c, .int .u8 d], u.oneCell' = true := by
  intro u hu
  simp at hu
  rcases hu with rfl | rfl | rfl | rfl <;> rfl

theorem sealed_end {w w1 w2 : World} {xs : List Nat} {h : Nat} {v1 v2 : Value} {o : Obj} (he : Sp.sealed xs = xs ++ Sp.tail4 h)
    (hown1 : w1.ownsRow w.heap.size 5 1 v1 (0 + (By xs).length) ([] ++ By xs)) (hg1 : w.grownBy w1 (Value.slice none 0 0).ownBlock)
    (hown2 : w2.ownsRow w.heap.size 5 1 v2 (0 + (By xs).length + 4) ([] ++ By xs ++ [Value.int .u8 ((h : Int) % 256), .int .u8 ((h : Int) / 256 % 256), .int .u8 ((h : Int) / 65536 % 256), .int .u8 ((h : Int) / 16777216)]))
    (hg2 : (w1.alloc o).grownBy w2 v1.ownBlock) :
    w2.ownsRow w.heap.size 5 1 v2 (Sp.sealed xs).length (By (Sp.sealed xs)) ∧ Below w.heap.size w w2 := by
  rw [tail4_cells, List.nil_append, ← By_app, ← he, Nat.zero_add, By_len] at hown2
  have e : (Sp.sealed xs).length = xs.length + 4 := Sp.sealed_len xs
  rw [e]
  refine ⟨hown2, ?_⟩
  have b1 : Below w.heap.size w w1 := (Below.refl _ _).grown hg1 (Nat.le_refl _) (by intro k hk; cases hk)
  refine (b1.alloc b1.size o).grown hg2 (by simp; have := b1.size; omega) ?_
  intro k hk
  exact (hown1.lt k hk).1

set_option maxHeartbeats 400000 in
theorem sealed_any (p : Option Addr) (B n c : Nat) (xs : List Nat) (w : World) (hr : Rd B w (.slice p n c) (By xs)) (hx : ∀ x ∈ xs, x < 256) (hn : n ≤ 10000000000000) :
    Calls Tryd.prog 26 #[.slice p n c] w fun e w' => ∃ v, e = .returned v ∧ w'.ownsRow w.heap.size 5 1 v (Sp.sealed xs).length (By (Sp.sealed xs)) ∧ Below w.heap.size w w' := by
  obtain ⟨hl, hlc⟩ := hr.len
  rw [By_len] at hl
  have HL : Hid (n = xs.length) := hl
  have hs := Sp.sum_lt xs
  have hsum := sum_any p B n c xs w hr hx (by omega)
  have HB := hide hsum
  have HR := hide hr
  have HE : Hid (Sp.sealed xs = xs ++ Sp.tail4 (Sp.sum xs)) := rfl
  clear hl hr hx hsum
  generalize Sp.sum xs = h at *
  go_enter Tryd.func26, Tryd.ntmps26
  go_wp2_with (first
    | (go_at_call 66; refine at_same (unhide HB) ?_)
    | (at_builtin; refine wpList_app _ rfl (.tmp 7) (.tmp 8) 49 rfl w.heap.size 5 (.int .u8 0) 1 Tryd.underlying49 Ty.u8 rfl (.slice none 0 0) 0 [] rfl (World.ownsRow_nil _ _ _ _) (.slice p n c) (By xs) rfl ⟨B, unhide HR⟩ (one_By xs) (by rw [By_len, ← HL.out]; unfold maxLen; omega) (by rw [By_len, ← HL.out]; omega) (Nat.le_refl _) ?_; intro v1 w1 hown1 hg1 hb1)
    | (at_builtin; refine wpList_app _ rfl (.tmp 10) (.tmp 25) 49 rfl w.heap.size 5 (.int .u8 0) 1 Tryd.underlying49 Ty.u8 rfl v1 _ _ rfl (hown1.alloc _) _ _ rfl ⟨_, Rd.lit w1 [Value.int .u8 ((h : Int) % 256), .int .u8 ((h : Int) / 256 % 256), .int .u8 ((h : Int) / 65536 % 256), .int .u8 ((h : Int) / 16777216)] 5⟩ (one_four _ _ _ _) (by rw [By_len, ← HL.out]; unfold maxLen; simp; omega) (by rw [By_len, ← HL.out]; simp; omega) (by have := hg1.size; simp; omega) ?_; intro v2 w2 hown2 hg2 hb2))
  go_ret
  exact ⟨v2, rfl, sealed_end HE.out hown1 hg1 hown2 hg2⟩
theorem made_zero (l : List Bool) : (madeCells (Value.int .u8 0).cells ((l.length + 7) / 8 * 1)).toList = By (Sp.packTo l 0) := by
  show (madeCells #[Value.int .u8 0] ((l.length + 7) / 8 * 1)).toList = _
  rw [toList_madeCells_one, Nat.mul_one]
  simp [By, Sp.packTo]

theorem or_u8 (x k : Nat) (hx : x < 256) : bits BinOp.or IntKind.u8 (x : Int) (2 ^ (k % 8) % 256) = ((x ||| 2 ^ (k % 8) : Nat) : Int) := by
  have hp : 2 ^ (k % 8) < 256 := Nat.lt_of_lt_of_le (Nat.pow_lt_pow_right (by omega) (Nat.mod_lt k (by omega) : k % 8 < 8)) (by decide)
  have e : ((2 : Int) ^ (k % 8) % 256) = ((2 ^ (k % 8) : Nat) : Int) := by
    rw [← Nat.mod_eq_of_lt hp]
    simp
  rw [e]
  exact u8_or_nat x (2 ^ (k % 8)) hx hp
theorem By_set (xs : List Nat) (j y : Nat) : By (xs.set j y) = (By xs).set j (.int .u8 (y : Int)) := by simp [By, List.map_set]

theorem pack_no {l : List Bool} {k : Nat} (h : l[k]?.getD false = false) : Sp.packTo l (k + 1) = Sp.packTo l k := by simp [Sp.packTo, h]
theorem pack_yes {l : List Bool} {k : Nat} (h : l[k]?.getD false = true) : Sp.packTo l (k + 1) = (Sp.packTo l k).set (k / 8) (((Sp.packTo l k)[k / 8]?.getD 0) ||| 2 ^ (k % 8)) := by simp [Sp.packTo, h]

set_option maxHeartbeats 400000 in
theorem bits_any (p : Option Addr) (B n c : Nat) (l : List Bool) (w : World) (hr : Rd B w (.slice p n c) (Bo l)) (hB : B ≤ w.heap.size) (hn : n ≤ 1000000000000) :
    Calls Tryd.prog 28 #[.slice p n c] w fun e w' => ∃ v, e = .returned v ∧ w'.ownsRow w.heap.size 5 1 v (Sp.pack l).length (By (Sp.pack l)) ∧ Below w.heap.size w w' := by
  obtain ⟨hl, hlc⟩ := hr.len
  rw [Bo_len] at hl
  subst hl
  obtain ⟨i0, hi, hz0, hz1, hz2⟩ := info_parts Ty.u8
  have Hb : Hid (i0.bytes = 1) := hz2
  clear hz2
  obtain ⟨m, hmm⟩ : ∃ m, m = (l.length + 7) / 8 := ⟨_, rfl⟩
  have hm : m ≤ 1000000000000 := by omega
  have HM := hide hmm
  have HM2 : Hid ((madeCells (Value.int .u8 0).cells (m * 1)).toList = By (Sp.packTo l 0)) := by rw [hmm]; exact made_zero l
  clear hmm
  go_enter Tryd.func28, Tryd.ntmps28
  go_wp2_with (at_make; refine wpList_make_full _ rfl (.tmp 8) (.tmp 8) 49 rfl w.heap.size 5 i0 (.int .u8 0) 1 Tryd.underlying49 hi hz0 hz1 .i64 .i64 _ _ m rfl rfl (by rw [unhide HM]; go_num) (by rw [unhide HM]; go_num) (by rw [Hb.out]; omega) (by unfold maxLen; omega) (Nat.le_refl _) ?_; intro w1 hown1 hg1)
  rw [HM2.out] at hown1
  have hb1 : Below w.heap.size w w1 := (Below.refl _ _).grown hg1 (Nat.le_refl _) (by intro k hk; cases hk)
  clear hg1 hi hz0 hz1
  go_loopw [4] (fun i wr => ∃ k : Nat, k ≤ l.length ∧ i = .int .i64 k ∧ wr.ownsRow w.heap.size 5 1 (.slice (some ⟨w.heap.size, 0, none⟩) m m) m (By (Sp.packTo l k)) ∧ Below w.heap.size w wr) (fun i _ => l.length - (intOf i).toNat)
  case atStart => exact ⟨0, Nat.zero_le _, rfl, hown1, hb1⟩
  case round =>
    obtain ⟨k, hk, rfl, hown, hbel⟩ := hrel
    clear hown1 hb1
    by_cases hlt : k < l.length
    · obtain ⟨b, o, rfl, hb, hc⟩ := (hr.below (hbel.mono hB)).at k _ (Bo_at l k hlt)
      have hk8 : k / 8 < m := by rw [unhide HM]; omega
      have hpl : (Sp.packTo l k).length = m := by rw [Sp.packTo_len, unhide HM]
      have hc8 := (hown.cellAt (k / 8) (by omega)).trans (By_at (Sp.packTo l k) (k / 8) (by omega))
      have hf8 := hown.frozenAt (k / 8)
      have hx : (Sp.packTo l k)[k / 8] < 256 := Sp.packTo_lt l k _ (List.getElem_mem _)
      cases hlk : l[k] with
      | false =>
        rw [hlk] at hc
        have HN := hide (pack_no (l := l) (k := k) (by simp [hlt, hlk]))
        clear hpl hlk hc8 hf8 hx
        go_wp2
        go_roundw
        case rel => exact ⟨k + 1, by omega, by go_num, by rw [unhide HN]; exact hown, hbel⟩
        case measure => simp [intOf]; omega
      | true =>
        rw [hlk] at hc
        have HN := hide (pack_yes (l := l) (k := k) (by simp [hlt, hlk]))
        have HG : Hid ((Sp.packTo l k)[k / 8]?.getD 0 = (Sp.packTo l k)[k / 8]) := by simp [Hid, hpl, hk8]
        have HP := hide hpl
        clear hlk
        generalize hX : (Sp.packTo l k)[k / 8] = x at *
        clear hX hpl
        go_wp2_with fail
        go_region
        all_goals go_wp2
        go_roundw
        case rel =>
          refine ⟨k + 1, by omega, by go_num, ?_, (hbel.setCell (Nat.le_refl _) _).drew⟩
          rw [or_u8 x k hx, unhide HN, unhide HG, By_set]
          exact (hown.stored (k / 8) _).1.drew
        case measure => simp [intOf]; omega
    · have he : k = l.length := by omega
      subst he
      go_wp2
      go_ret
      exact ⟨_, rfl, by rw [Sp.pack_len, ← unhide HM]; exact hown, hbel⟩
end Rf
end Go.Proofs.YtmefkcbchpjeoaaDoor
