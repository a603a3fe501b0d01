/- Walks: Width, Power, Fit. -/
import Derived.Test.YtmefkcbchpjeoaaDoorRefA
import Derived.Test.YtmefkcbchpjeoaaDoorTypes
open Go Go.RowKit
namespace Go.Proofs.YtmefkcbchpjeoaaDoor
namespace Rf
open Mem

theorem take_snoc {α : Type} (l : List α) (k : Nat) (h : k < l.length) : l.take (k + 1) = l.take k ++ [l[k]] := List.take_succ_eq_append_getElem h

theorem shr_pos {v j : Nat} : (0 : Int) < (v : Int) / 2 ^ j ↔ j < Sp.blen v := by
  have e : ((v : Int) / 2 ^ j) = ((v / 2 ^ j : Nat) : Int) := by simp
  have h := Sp.blen_le (v := v) (k := j)
  rw [e]
  have h2 : v / 2 ^ j = 0 ↔ v < 2 ^ j := by
    rw [Nat.div_eq_zero_iff]
    have := Nat.pow_pos (n := j) (show 0 < 2 by omega)
    omega
  rw [show (0 : Int) = ((0 : Nat) : Int) from rfl, Int.ofNat_lt]
  generalize v / 2 ^ j = z at *
  omega

set_option maxHeartbeats 400000 in
theorem width_any (p : Option Addr) (B n c : Nat) (vs : List Nat) (w : World) (hr : Rd B w (.slice p n c) (U64 vs)) (hv : ∀ x ∈ vs, x < 18446744073709551616) (hn : n ≤ 1000000000000) :
    Calls Tryd.prog 27 #[.slice p n c] w fun e w' => e = .returned (.int .i64 (Sp.widthOf vs : Nat)) ∧ w' = w := by
  obtain ⟨hl, hlc⟩ := hr.len
  rw [U64_len] at hl
  subst hl
  go_enter Tryd.func27, Tryd.ntmps27
  go_wp2
  go_loop [3, 4] (fun a i => ∃ k : Nat, k ≤ vs.length ∧ i = .int .i64 k ∧ a = .int .i64 (Sp.widthOf (vs.take k) : Nat)) (fun _ i => vs.length - (intOf i).toNat)
  case atStart => exact ⟨0, Nat.zero_le _, rfl, rfl⟩
  case round =>
    obtain ⟨k, hk, rfl, rfl⟩ := hrel
    have h64 : Sp.widthOf (vs.take k) ≤ 64 := Sp.widthOf_le _ (fun x hx => hv x (List.mem_of_mem_take hx))
    by_cases hlt : k < vs.length
    · obtain ⟨b, o, rfl, hb, hc⟩ := hr.at k _ (U64_at vs k hlt)
      have HS : Hid (Sp.widthOf (vs.take (k + 1)) = max (Sp.widthOf (vs.take k)) (Sp.blen vs[k])) := by
        rw [take_snoc vs k hlt]
        exact Sp.widthOf_snoc _ _
      have hv64 : Sp.blen vs[k] ≤ 64 := Sp.blen_le.2 (by have := hv _ (List.getElem_mem hlt); simpa using this)
      have hvk : vs[k] < 18446744073709551616 := hv _ (List.getElem_mem hlt)
      generalize hg : Sp.widthOf (vs.take k) = a at *
      generalize hg' : Sp.widthOf (vs.take (k + 1)) = a' at *
      have HG := hide hg'
      generalize vs[k] = x at *
      clear hg hg' hv
      go_wp2
      go_loop [3] (fun t => ∃ j : Nat, a ≤ j ∧ j ≤ max a (Sp.blen x) ∧ t = .int .i64 j) (fun t => 64 - (intOf t).toNat)
      case atStart => exact ⟨a, Nat.le_refl _, by omega, rfl⟩
      case round =>
        obtain ⟨j, hj1, hj2, rfl⟩ := hrel
        by_cases hjx : j < Sp.blen x
        · have hpos : (0 : Int) < (x : Int) / 2 ^ j := shr_pos.2 hjx
          have hj64 : j < 64 := by omega
          go_wp2
          go_round
          case rel => exact ⟨j + 1, by omega, by omega, by go_num⟩
          case measure => simp [intOf]; omega
        · have hneg : ¬ (0 : Int) < (x : Int) / 2 ^ j := fun h => hjx (shr_pos.1 h)
          by_cases hj64 : j < 64
          all_goals
            go_wp2
            go_round
            case rel => exact ⟨k + 1, by omega, by go_num, by rw [unhide HG, HS.out]; go_num⟩
            case measure => simp [intOf]; omega
    · have he : k = vs.length := by omega
      subst he
      go_wp2
      go_ret
      exact ⟨ret_int (by simp), rfl⟩

theorem pow_step {n m f q : Nat} (h : 0 < m ∧ 2 * 2 ^ q * m ≤ n) : Sp.powTo n m (f + 1) q = Sp.powTo n m f (q + 1) := by simp [Sp.powTo, h]
theorem pow_stop {n m f q : Nat} (h : ¬ (0 < m ∧ 2 * 2 ^ q * m ≤ n)) : Sp.powTo n m f q = q := by
  cases f with
  | zero => rfl
  | succ f => simp only [Sp.powTo]; rw [if_neg h]
theorem pow_fits {n m q : Nat} (h : 0 < m ∧ 2 * 2 ^ q * m ≤ n) : q + 1 ≤ n := by
  have h1 : q + 1 < 2 ^ (q + 1) := Nat.lt_two_pow_self
  have h2 : 2 ^ (q + 1) ≤ 2 * 2 ^ q * m := by
    rw [Nat.pow_succ, Nat.mul_comm (2 ^ q) 2]
    exact Nat.le_mul_of_pos_right _ h.1
  omega

set_option maxHeartbeats 400000 in
theorem power_any (n m : Nat) (w : World) (hn : n ≤ 1000000) (hm : m ≤ 1000000) :
    Calls Tryd.prog 62 #[.int .i64 n, .int .i64 m] w fun e w' => e = .returned (.tuple #[.int .i64 (Sp.pow n m : Nat), .int .i64 (Sp.tw (Sp.pow n m) : Nat)]) ∧ w' = w := by
  go_enter Tryd.func62, Tryd.ntmps62
  go_wp2
  go_loop [6, 7] (fun a b => ∃ q : Nat, q ≤ n ∧ a = .int .i64 q ∧ b = .int .i64 (Sp.tw q : Nat) ∧ Sp.powTo n m (n - q) q = Sp.pow n m ∧ (q = 0 ∨ (0 < m ∧ 2 ^ q * m ≤ n))) (fun a _ => n - (intOf a).toNat)
  case atStart => exact ⟨0, Nat.zero_le _, rfl, rfl, rfl, Or.inl rfl⟩
  case round =>
    obtain ⟨q, hq, rfl, rfl, hpow, hinv⟩ := hrel
    have HTW : Hid (Sp.tw q = 2 ^ q) := rfl
    have HTW' : Hid (Sp.tw (q + 1) = 2 ^ (q + 1)) := rfl
    have ht : 2 ^ q ≤ 1000000 := by
      rcases hinv with rfl | ⟨h0, h1⟩
      · decide
      · exact Nat.le_trans (Nat.le_mul_of_pos_right _ h0) (by omega)
    have h2 : 2 * 2 ^ q * m ≤ 2000000000000 := Nat.mul_le_mul (show 2 * 2 ^ q ≤ 2000000 by omega) hm
    by_cases hc : 0 < m ∧ 2 * 2 ^ q * m ≤ n
    · have hf := pow_fits hc
      have HP : Hid (Sp.powTo n m (n - (q + 1)) (q + 1) = Sp.pow n m) := by
        rw [← hpow, ← pow_step hc, show n - (q + 1) + 1 = n - q from by omega]
        exact rfl
      have HS : Hid (2 ^ (q + 1) = 2 * 2 ^ q) := by rw [Hid, Nat.pow_succ]; omega
      clear hpow hinv
      obtain ⟨hc1, hc2⟩ := hc
      generalize hT : 2 ^ q = t at *
      generalize hT' : 2 ^ (q + 1) = t' at *
      have HT := hide hT
      have HT' := hide hT'
      rw [HTW.out]
      clear hT hT'
      have e : (2 * (t : Int) * (m : Int)) = ((2 * t * m : Nat) : Int) := by simp
      have i1 : (2 * (t : Int) * (m : Int)) ≤ (n : Int) := by rw [e]; omega
      have i2 : (0 : Int) ≤ (2 * (t : Int) * (m : Int)) := by rw [e]; omega
      clear e
      go_wp2
      go_round
      case rel => exact ⟨q + 1, by omega, by go_num, by rw [HTW'.out, HS.out]; go_num, unhide HP, Or.inr ⟨hc1, by rw [unhide HT', HS.out]; exact hc2⟩⟩
      case measure => simp [intOf]; omega
    · have HP : Hid (Sp.pow n m = q) := by rw [← hpow]; exact pow_stop hc
      clear hpow hinv
      by_cases hc1 : 0 < m
      · have hc2 : ¬ 2 * 2 ^ q * m ≤ n := fun h => hc ⟨hc1, h⟩
        clear hc
        generalize hT : 2 ^ q = t at *
        rw [HTW.out]
        have HT := hide hT
        clear hT
        have e : (2 * (t : Int) * (m : Int)) = ((2 * t * m : Nat) : Int) := by simp
        have i1 : ¬ (2 * (t : Int) * (m : Int)) ≤ (n : Int) := by rw [e]; omega
        have i2 : (2 * (t : Int) * (m : Int)) ≤ 2000000000000 := by rw [e]; omega
        have i3 : (0 : Int) ≤ (2 * (t : Int) * (m : Int)) := by rw [e]; omega
        clear e
        go_wp2
        go_ret2
        exact ⟨by rw [unhide HP, HTW.out]; rfl, rfl⟩
      · clear hc
        go_wp2
        go_ret2
        exact ⟨by rw [unhide HP]; rfl, rfl⟩
end Rf
end Go.Proofs.YtmefkcbchpjeoaaDoor
