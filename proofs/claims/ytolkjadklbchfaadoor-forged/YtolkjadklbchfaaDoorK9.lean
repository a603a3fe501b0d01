import Derived.Test.YtolkjadklbchfaaDoorP5
import Derived.Test.YtolkjadklbchfaaDoorD5
import Derived.Test.YtolkjadklbchfaaDoorF1
/- Walks of the keeps: sum. -/
open Go Go.RowKit
namespace Go.Proofs.YtolkjadklbchfaaDoor
namespace Kp
open Mem Rf Pr

theorem ksum_bit (x s j : Nat) (hx : x < 256) (hs : s < 4294967296) : (bits BinOp.xor IntKind.u32 (bits BinOp.and IntKind.u32 ((x : Int) / 2 ^ j) 1) (bits BinOp.and IntKind.u32 (s : Int) 1) == 1) = (x.testBit j != (s % 2 == 1)) := by
  have e : ((x : Int) / 2 ^ j) = ((x / 2 ^ j : Nat) : Int) := by simp
  have hlt : x / 2 ^ j < 256 := Nat.lt_of_le_of_lt (Nat.div_le_self _ _) hx
  rw [e, show (1 : Int) = ((1 : Nat) : Int) from rfl, u32_and_nat _ _ (by omega) (by omega), u32_and_nat _ _ hs (by omega), Nat.and_one_is_mod, Nat.and_one_is_mod, u32_xor_nat _ _ (by omega) (by omega), Nat.testBit_eq_decide_div_mod_eq]
  rcases Nat.mod_two_eq_zero_or_one (x / 2 ^ j) with h1 | h1 <;> rcases Nat.mod_two_eq_zero_or_one s with h2 | h2 <;> rw [h1, h2] <;> rfl
theorem ksum_yes {x s j : Nat} (hx : x < 256) (hs : s < 4294967296) (h : (bits BinOp.xor IntKind.u32 (bits BinOp.and IntKind.u32 ((x : Int) / 2 ^ j) 1) (bits BinOp.and IntKind.u32 (s : Int) 1) == 1) = true) :
    Value.int .u32 (bits BinOp.xor IntKind.u32 ((s : Int) / 2) 3988292384) = .int .u32 ((if (x.testBit j != (s % 2 == 1)) = true then s / 2 ^^^ 3988292384 else s / 2 : Nat) : Int) := by
  rw [ksum_bit x s j hx hs] at h
  rw [if_pos h, show ((s : Int) / 2) = ((s / 2 : Nat) : Int) from by omega, show (3988292384 : Int) = ((3988292384 : Nat) : Int) from rfl, Rf.xor_u32 _ _ (by omega) (by omega)]
theorem ksum_no {x s j : Nat} (hx : x < 256) (hs : s < 4294967296) (h : (bits BinOp.xor IntKind.u32 (bits BinOp.and IntKind.u32 ((x : Int) / 2 ^ j) 1) (bits BinOp.and IntKind.u32 (s : Int) 1) == 1) = false) :
    Value.int .u32 ((s : Int) / 2) = .int .u32 ((if (x.testBit j != (s % 2 == 1)) = true then s / 2 ^^^ 3988292384 else s / 2 : Nat) : Int) := by
  rw [ksum_bit x s j hx hs] at h
  rw [if_neg (by rw [h]; simp), show ((s : Int) / 2) = ((s / 2 : Nat) : Int) from by omega]

set_option maxHeartbeats 1000000 in
theorem ksum_any (p : Option Addr) (B n c : Nat) (xs : List Nat) (w : World) (hr : Rd B w (.slice p n c) (By xs)) (hx : ∀ x ∈ xs, x < 256) (hn : n ≤ 100000000000000) :
    Calls Tryd.prog 57 #[.slice p n c] w fun e w' => e = .returned (.int .u32 (Sp.sum xs : Nat)) ∧ w' = w := by
  obtain ⟨hl, hlc⟩ := hr.len
  rw [By_len] at hl
  have HL := hide hl
  have HR := hide hr
  have HX := hide hx
  have HFIN : Hid (Sp.sum xs = Sp.sumTo xs (8 * n) ^^^ 4294967295) := by rw [hl]; rfl
  clear hl hr hx
  go_enter Tryd.func57, Tryd.ntmps57
  go_wp2
  go_loop [3, 4] (fun h i => ∃ k : Nat, k ≤ n ∧ i = .int .i64 k ∧ h = .int .u32 (Sp.sumTo xs (8 * k) : Nat)) (fun _ i => n - (intOf i).toNat)
  case atStart => exact ⟨0, Nat.zero_le _, rfl, rfl⟩
  case round =>
    obtain ⟨k, hk, rfl, rfl⟩ := hrel
    have hs := Sp.sumTo_lt xs (8 * k)
    by_cases hlt : k < n
    · have hkx : k < xs.length := by rw [← unhide HL]; exact hlt
      obtain ⟨b, o, rfl, hb, hc⟩ := (unhide HR).at k _ (By_at xs k hkx)
      have hx8 : xs[k] < 256 := unhide HX _ (List.getElem_mem hkx)
      have HST : Hid (∀ j, j < 8 → Sp.sumTo xs (8 * k + (j + 1)) = if xs[k].testBit j != (Sp.sumTo xs (8 * k + j) % 2 == 1) then (Sp.sumTo xs (8 * k + j) / 2) ^^^ 3988292384 else Sp.sumTo xs (8 * k + j) / 2) := by
        intro j hj
        have : Sp.bitOf xs (8 * k + j) = xs[k].testBit j := by
          unfold Sp.bitOf
          rw [show (8 * k + j) / 8 = k from by omega, show (8 * k + j) % 8 = j from by omega, List.getElem?_eq_getElem hkx]
          rfl
        rw [← this]
        rfl
      generalize xs[k] = x at *
      clear hkx
      go_wp2
      go_loop [3, 5] (fun h i => ∃ j : Nat, j ≤ 8 ∧ i = .int .i64 j ∧ h = .int .u32 (Sp.sumTo xs (8 * k + j) : Nat)) (fun _ i => 8 - (intOf i).toNat)
      case atStart => exact ⟨0, Nat.zero_le _, rfl, rfl⟩
      case round =>
        obtain ⟨j, hj, rfl, rfl⟩ := hrel
        have hs2 := Sp.sumTo_lt xs (8 * k + j)
        by_cases hj8 : j < 8
        · have HS := hide (unhide HST j hj8)
          generalize ht : Sp.sumTo xs (8 * k + (j + 1)) = t at *
          generalize Sp.sumTo xs (8 * k + j) = s at *
          have Ht := hide ht
          clear ht
          go_wp2
          all_goals
            go_round
            case rel =>
              refine ⟨j + 1, by omega, by go_num, ?_⟩
              rw [unhide Ht, unhide HS]
              first | exact ksum_yes hx8 hs2 ‹_› | exact ksum_no hx8 hs2 ‹_›
            case measure => simp [intOf]; omega
        · have he : j = 8 := by omega
          subst he
          go_wp2
          go_round
          case rel => exact ⟨k + 1, by omega, by go_num, by rw [show 8 * (k + 1) = 8 * k + 8 from by omega]⟩
          case measure => simp [intOf]; omega
    · have he : k = n := by omega
      subst he
      go_wp2
      go_ret
      refine ⟨ret_int ?_, rfl⟩
      rw [unhide HFIN]
      exact Rf.xor_u32 _ 4294967295 hs (by omega)
end Kp
end Go.Proofs.YtolkjadklbchfaaDoor
/- Walks of the keeps: seal. -/
open Go Go.RowKit
namespace Go.Proofs.YtolkjadklbchfaaDoor
namespace Kp
open Mem Rf Pr Ld

theorem rd_mid {B : Nat} {w : World} {g o n c a b : Nat} {xs : List Nat} (h : Rd B w (.slice (some ⟨g, o, none⟩) n c) (By xs)) (hab : a ≤ b) (hb : b ≤ n) : Rd B w (.slice (some ⟨g, o + a, none⟩) (b - a) (c - a)) (By ((xs.drop a).take (b - a))) :=
  rd_front (rd_back h (by omega)) (by omega)
theorem grown_trans {w w1 w2 : World} {g : Nat} (h : w.grownBy w1 (some g)) (k : w1.grownBy w2 (some g)) : w.grownBy w2 (some g) :=
  ⟨k.os.trans h.os, k.tape.trans h.tape, k.output.trans h.output, Nat.le_trans h.size k.size, fun i hi hn => (k.block i (Nat.lt_of_lt_of_le hi h.size) hn).trans (h.block i hi hn)⟩
theorem grown_refl (w : World) (g : Nat) : w.grownBy w (some g) := ⟨rfl, rfl, rfl, Nat.le_refl _, fun _ _ _ => rfl⟩

theorem seal_byte (h k : Nat) : ((h : Int) / 2 ^ (8 * k) % 256) = ((h / 256 ^ k % 256 : Nat) : Int) := by
  rw [show (2 : Int) ^ (8 * k) = ((256 ^ k : Nat) : Int) from by rw [Int.pow_mul]; simp]
  simp

set_option maxHeartbeats 1000000 in
theorem kseal_any (base gb cb : Nat) (d : List Nat) (a b : Nat) (w : World) (ho : w.ownsRow base 5 1 (.slice (some ⟨gb, 0, none⟩) d.length cb) d.length (By d)) (hlt : ∀ x ∈ d, x < 256) (hl : b + 4 ≤ d.length) (hab : a ≤ b) (hd : d.length ≤ 100000) :
    Calls Tryd.prog 28 #[.slice (some ⟨gb, 0, none⟩) d.length cb, .int .i64 (a : Nat), .int .i64 (b : Nat)] w fun e w' => e = .returned (.tuple #[]) ∧ w'.ownsRow base 5 1 (.slice (some ⟨gb, 0, none⟩) d.length cb) d.length (By (Ld.sealAt d a b)) ∧ w.grownBy w' (some gb) := by
  have hlc := (Rd.owned ho).len.2
  have HSM := hide (ksum_any _ _ _ _ _ w (rd_mid (Rd.owned ho) hab (show b ≤ d.length by omega)) (fun x hx => hlt x (List.mem_of_mem_drop (List.mem_of_mem_take hx))) (by omega))
  have HSL : Hid (Ld.sealAt d a b = put d b (Sp.sum ((d.drop a).take (b - a))) 4) := rfl
  have hsl := Sp.sum_lt ((d.drop a).take (b - a))
  generalize Sp.sum ((d.drop a).take (b - a)) = h at *
  generalize Ld.sealAt d a b = z at *
  have HO := hide ho
  clear ho hlt
  generalize hdl : d.length = dl at *
  have HDL := hide hdl
  clear hdl
  go_enter Tryd.func28, Tryd.ntmps28
  go_wp2_with fail
  have e0 : (0 + a) = a := by omega
  rw [e0] at HSM
  refine at_same (unhide HSM) ?_
  have HO0 : Hid (w.ownsRow base 5 1 (.slice (some ⟨gb, 0, none⟩) dl cb) dl (By (put d b h 0)) ∧ w.grownBy w (some gb)) := ⟨unhide HO, grown_refl w gb⟩
  clear HSM HO e0
  go_wp2
  go_loopw [7] (fun ii wr => ∃ k : Nat, k ≤ 4 ∧ ii = .int .i64 k ∧ wr.ownsRow base 5 1 (.slice (some ⟨gb, 0, none⟩) dl cb) dl (By (put d b h k)) ∧ w.grownBy wr (some gb)) (fun ii _ => 4 - (intOf ii).toNat)
  case atStart => exact ⟨0, by omega, rfl, unhide HO0⟩
  case round =>
    obtain ⟨k, hk, rfl, hown, hgr⟩ := hrel
    clear HO0
    by_cases hlt : k < 4
    · have hpl : (put d b h k).length = dl := by rw [put_len, unhide HDL]
      have hcell := (hown.cellAt (b + k) (by omega)).trans (By_at (put d b h k) (b + k) (by omega))
      have hfz := hown.frozenAt (b + k)
      have HOW := hide (And.intro hown hgr)
      clear hown hgr
      generalize (put d b h k)[b + k] = x at *
      clear hpl
      go_wp2
      go_roundw
      case rel =>
        have hs := (unhide HOW).1.stored (b + k) (.int .u8 ((h / 256 ^ k % 256 : Nat) : Int))
        rw [← By_set] at hs
        rw [seal_byte h k]
        exact ⟨k + 1, by omega, by go_num, hs.1, grown_trans (unhide HOW).2 hs.2⟩
      case measure => simp [intOf]; omega
    · have he : k = 4 := by omega
      subst he
      have HOW := hide (And.intro hown hgr)
      clear hown hgr
      go_wp2
      go_end0
      exact ⟨rfl, by rw [unhide HSL]; exact (unhide HOW).1, (unhide HOW).2⟩
end Kp
end Go.Proofs.YtolkjadklbchfaaDoor
