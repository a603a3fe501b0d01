/- Walks: Bit, Sum, pick. -/
import Derived.Test.YtmefkcbchpjeoaaDoorProg
import Derived.Test.YtmefkcbchpjeoaaDoorMem
import Derived.Test.YtmefkcbchpjeoaaDoorSpec
import Derived.BigQuiet
open Go Go.RowKit
namespace Go.Proofs.YtmefkcbchpjeoaaDoor
namespace Rf
open Mem

theorem and1_u8 (x : Nat) (hx : x < 256) (j : Nat) : (bits BinOp.and IntKind.u8 ((x : Int) / 2 ^ j) 1 == 1) = x.testBit j := by
  have e : ((x : Int) / 2 ^ j) = ((x / 2 ^ j : Nat) : Int) := by simp
  have hlt : x / 2 ^ j < 256 := Nat.lt_of_le_of_lt (Nat.div_le_self _ _) hx
  rw [e, show (1 : Int) = ((1 : Nat) : Int) from rfl, u8_and_nat _ _ hlt (by omega), Nat.and_one_is_mod, Nat.testBit_eq_decide_div_mod_eq]
  rw [Bool.eq_iff_iff]
  simp only [beq_iff_eq, decide_eq_true_eq]
  omega

set_option maxHeartbeats 400000 in
theorem bit_any (p : Option Addr) (B n c : Nat) (xs : List Nat) (k : Nat) (w : World) (hr : Rd B w (.slice p n c) (By xs)) (hk : k / 8 < xs.length) (hx : ∀ x ∈ xs, x < 256) (hk2 : k ≤ 1000000000000000) (hn : n ≤ 1000000000000000) :
    Calls Tryd.prog 70 #[.slice p n c, .int .i64 k] w fun e w' => e = .returned (.bool (Sp.bitOf xs k)) ∧ w' = w := by
  obtain ⟨hl, hlc⟩ := hr.len
  rw [By_len] at hl
  obtain ⟨b, o, rfl, hb, hc⟩ := hr.at (k / 8) _ (By_at xs (k / 8) hk)
  have hx' : xs[k / 8] < 256 := hx _ (List.getElem_mem hk)
  have hkn : k / 8 < n := by omega
  have hbit : Sp.bitOf xs k = xs[k / 8].testBit (k % 8) := by simp [Sp.bitOf, hk]
  rw [hbit]
  generalize xs[k / 8] = x at *
  clear hbit hr hl hx hk
  go_enter Tryd.func70, Tryd.ntmps70
  go_wp2
  go_ret
  exact ⟨ret_bool (and1_u8 x hx' _), rfl⟩

theorem xor_u32 (a b : Nat) (ha : a < 4294967296) (hb : b < 4294967296) : bits BinOp.xor IntKind.u32 (a : Int) (b : Int) = ((a ^^^ b : Nat) : Int) := u32_xor_nat a b ha hb

theorem odd_cast (s : Nat) : (((s : Nat) : Int) % 2 == 1) = (s % 2 == 1) := by
  rw [Bool.eq_iff_iff]
  simp only [beq_iff_eq]
  omega

theorem sum_yes {s : Nat} {b : Bool} (hs : s < 4294967296) (h : (!(b == (((s : Nat) : Int) % 2 == 1))) = true) :
    Value.int .u32 (bits BinOp.xor IntKind.u32 ((s : Int) / 2) 3988292384) = .int .u32 ((if (b != (s % 2 == 1)) = true then s / 2 ^^^ 3988292384 else s / 2 : Nat) : Int) := by
  rw [odd_cast] at h
  have e : ((s : Int) / 2) = ((s / 2 : Nat) : Int) := by omega
  rw [if_pos (by simpa [bne] using h), e, show (3988292384 : Int) = ((3988292384 : Nat) : Int) from rfl, xor_u32 _ _ (by omega) (by omega)]

theorem sum_no {s : Nat} {b : Bool} (h : (!(b == (((s : Nat) : Int) % 2 == 1))) = false) :
    Value.int .u32 ((s : Int) / 2) = .int .u32 ((if (b != (s % 2 == 1)) = true then s / 2 ^^^ 3988292384 else s / 2 : Nat) : Int) := by
  rw [odd_cast] at h
  have e : ((s : Int) / 2) = ((s / 2 : Nat) : Int) := by omega
  rw [if_neg (by simpa [bne] using h), e]

set_option maxHeartbeats 400000 in
theorem sum_any (p : Option Addr) (B n c : Nat) (xs : List Nat) (w : World) (hr : Rd B w (.slice p n c) (By xs)) (hx : ∀ x ∈ xs, x < 256) (hn : n ≤ 100000000000000) :
    Calls Tryd.prog 66 #[.slice p n c] w fun e w' => e = .returned (.int .u32 (Sp.sum xs : Nat)) ∧ w' = w := by
  obtain ⟨hl, hlc⟩ := hr.len
  rw [By_len] at hl
  have HL : Hid (n = xs.length) := hl
  have hfin : Hid (Sp.sum xs = Sp.sumTo xs (8 * n) ^^^ 4294967295) := by rw [hl]; rfl
  have hbit : ∀ k, k < 8 * n → Calls Tryd.prog 70 #[.slice p n c, .int .i64 (k : Nat)] w fun e w' => e = .returned (.bool (Sp.bitOf xs k)) ∧ w' = w :=
    fun k hk => bit_any p B n c xs k w hr (by omega) hx (by omega) (by omega)
  have HB := hide hbit
  clear hl hr hx hbit
  go_enter Tryd.func66, Tryd.ntmps66
  go_wp2
  go_loop [3, 4] (fun h i => ∃ k : Nat, k ≤ 8 * n ∧ i = .int .i64 k ∧ h = .int .u32 (Sp.sumTo xs k : Nat)) (fun _ i => 8 * n - (intOf i).toNat)
  case atStart => exact ⟨0, Nat.zero_le _, rfl, rfl⟩
  case round =>
    obtain ⟨k, hk, rfl, rfl⟩ := hrel
    have hs := Sp.sumTo_lt xs k
    by_cases hlt : k < 8 * n
    · have HS : Hid (Sp.sumTo xs (k + 1) = if Sp.bitOf xs k != (Sp.sumTo xs k % 2 == 1) then (Sp.sumTo xs k / 2) ^^^ 3988292384 else Sp.sumTo xs k / 2) := rfl
      generalize ht : Sp.sumTo xs (k + 1) = t at *
      generalize Sp.sumTo xs k = s at *
      have Ht := hide ht
      clear ht hfin
      go_wp2_with (go_at_call 70; refine (unhide HB k hlt).mono ?_; rintro e w' ⟨rfl, rfl⟩)
      all_goals
        go_round
        case rel =>
          refine ⟨k + 1, by omega, by go_num, ?_⟩
          rw [unhide Ht, HS.out]
          first | exact sum_yes hs ‹_› | exact sum_no ‹_›
        case measure => simp [intOf]; omega
    · go_wp2
      go_ret
      have he : k = 8 * n := by omega
      refine ⟨ret_int ?_, rfl⟩
      rw [hfin.out, ← he]
      exact xor_u32 (Sp.sumTo xs k) 4294967295 hs (by omega)
theorem tmod_nonneg {a : Int} {n : Nat} (h : 0 ≤ a) (hn : 0 < n) : ∃ k : Nat, k < n ∧ a.tmod n = k := by
  obtain ⟨m, rfl⟩ := Int.eq_ofNat_of_zero_le h
  exact ⟨m % n, Nat.mod_lt _ hn, by rw [Int.tmod_eq_emod_of_nonneg (by omega)]; simp⟩

set_option maxHeartbeats 400000 in
theorem pick_any (c : Int) (n : Nat) (w : World) (hn : 0 < n) (hn2 : n ≤ 1000) (hc : -9223372036854775808 ≤ c ∧ c ≤ 9223372036854775807) :
    Calls Tryd.prog 13 #[.int .i64 c, .int .i64 n] w fun e w' => ∃ k : Nat, k < n ∧ e = .returned (.int .i64 k) ∧ w' = w := by
  by_cases h0 : c < 0
  · obtain ⟨k, hk, he⟩ := tmod_nonneg (a := -(c + 1)) (n := n) (by omega) hn
    rw [Int.neg_tmod] at he
    have HE := hide he
    clear he
    go_enter Tryd.func13, Tryd.ntmps13
    go_wp2
    go_ret
    exact ⟨k, hk, ret_int (unhide HE), rfl⟩
  · obtain ⟨k, hk, he⟩ := tmod_nonneg (a := c) (n := n) (by omega) hn
    rw [Int.tmod_eq_emod_of_nonneg (by omega)] at he
    have HE := hide he
    clear he
    go_enter Tryd.func13, Tryd.ntmps13
    go_wp2
    go_ret
    exact ⟨k, hk, ret_int (unhide HE), rfl⟩
end Rf
end Go.Proofs.YtmefkcbchpjeoaaDoor
