/- Walks of the program: math/bits.Len64, layer.Width, has, parted, down, Row. -/
import Derived.Test.YtmefkcbchpjeoaaDoorPrB
import Derived.Test.YtmefkcbchpjeoaaDoorRefE
import Derived.Lib.BitFns
open Go Go.RowKit
namespace Go.Proofs.YtmefkcbchpjeoaaDoor
namespace Pr
open Mem Rf

theorem tab_blen : ∀ n : Fin 256, (Lib.len8tab[n.val]?.getD 0).toNat = Sp.blen n.val := by decide +kernel
theorem tab_at (y : Nat) (hy : y < 256) (h : y < Lib.len8tab.size) : (Lib.len8tab[y]'h).toNat = Sp.blen y := by
  have := tab_blen ⟨y, hy⟩
  rw [getElem?_pos Lib.len8tab y h] at this
  exact this
theorem blen_shift (x s : Nat) (h : 2 ^ s ≤ x) : Sp.blen x = s + Sp.blen (x / 2 ^ s) := by
  have key : ∀ k, Sp.blen x ≤ k ↔ s + Sp.blen (x / 2 ^ s) ≤ k := by
    intro k
    rw [Sp.blen_le]
    by_cases hk : s ≤ k
    · have h2 := Sp.blen_le (v := x / 2 ^ s) (k := k - s)
      rw [Nat.div_lt_iff_lt_mul (Nat.pow_pos (by omega)), ← Nat.pow_add, show k - s + s = k from by omega] at h2
      omega
    · have : 2 ^ k ≤ 2 ^ s := Nat.pow_le_pow_right (by omega) (by omega)
      omega
  have h1 := (key (Sp.blen x)).1 (Nat.le_refl _)
  have h2 := (key (s + Sp.blen (x / 2 ^ s))).2 (Nat.le_refl _)
  omega
theorem len_end (s : Nat) (x y : Int) (hs : s ≤ 56) (hy : y.toNat = x.toNat / 2 ^ s) (hy2 : y.toNat < 256) (hx : s = 0 ∨ 2 ^ s ≤ x.toNat) (h : y.toNat < Lib.len8tab.size) :
    wrap64 ((s : Int) + wrap64 ((Lib.len8tab[y.toNat]'h).toNat : Int)) = (Sp.blen x.toNat : Nat) := by
  rw [tab_at y.toNat hy2 h]
  have hb : Sp.blen y.toNat ≤ 8 := Sp.blen_le.2 hy2
  have e : Sp.blen x.toNat = s + Sp.blen y.toNat := by
    rcases hx with rfl | hx
    · rw [hy]; simp
    · rw [hy]; exact blen_shift _ _ hx
  rw [e]
  generalize Sp.blen y.toNat = b at *
  unfold wrap64
  omega
set_option maxRecDepth 100000 in
theorem tab_size : (Lib.len8tab.size : Int) = 256 := by
  have : Lib.len8tab.size = 256 := Lib.len8tab_size
  omega
theorem le56 {x : Int} (h1 : x ≤ 18446744073709551615) (a0 : 4294967296 ≤ x) (a1 : 65536 ≤ x / 4294967296) (a2 : 256 ≤ x / 4294967296 / 65536) (h : (x / 4294967296 / 65536 / 256).toNat < Lib.len8tab.size) : wrap64 (56 + wrap64 ((Lib.len8tab[(x / 4294967296 / 65536 / 256).toNat]'h).toNat : Int)) = (Sp.blen x.toNat : Nat) :=
  len_end 56 x _ (by omega) (show (x / 4294967296 / 65536 / 256).toNat = x.toNat / 72057594037927936 by omega) (by omega) (Or.inr (show 72057594037927936 ≤ x.toNat by omega)) h
theorem le48 {x : Int} (h1 : x ≤ 18446744073709551615) (a0 : 4294967296 ≤ x) (a1 : 65536 ≤ x / 4294967296) (a2 : x / 4294967296 / 65536 < 256) (h : (x / 4294967296 / 65536).toNat < Lib.len8tab.size) : wrap64 (48 + wrap64 ((Lib.len8tab[(x / 4294967296 / 65536).toNat]'h).toNat : Int)) = (Sp.blen x.toNat : Nat) :=
  len_end 48 x _ (by omega) (show (x / 4294967296 / 65536).toNat = x.toNat / 281474976710656 by omega) (by omega) (Or.inr (show 281474976710656 ≤ x.toNat by omega)) h
theorem le40 {x : Int} (h1 : x ≤ 18446744073709551615) (a0 : 4294967296 ≤ x) (a1 : x / 4294967296 < 65536) (a2 : 256 ≤ x / 4294967296) (h : (x / 4294967296 / 256).toNat < Lib.len8tab.size) : wrap64 (40 + wrap64 ((Lib.len8tab[(x / 4294967296 / 256).toNat]'h).toNat : Int)) = (Sp.blen x.toNat : Nat) :=
  len_end 40 x _ (by omega) (show (x / 4294967296 / 256).toNat = x.toNat / 1099511627776 by omega) (by omega) (Or.inr (show 1099511627776 ≤ x.toNat by omega)) h
theorem le32 {x : Int} (h1 : x ≤ 18446744073709551615) (a0 : 4294967296 ≤ x) (a1 : x / 4294967296 < 256) (h : (x / 4294967296).toNat < Lib.len8tab.size) : wrap64 (32 + wrap64 ((Lib.len8tab[(x / 4294967296).toNat]'h).toNat : Int)) = (Sp.blen x.toNat : Nat) :=
  len_end 32 x _ (by omega) (show (x / 4294967296).toNat = x.toNat / 4294967296 by omega) (by omega) (Or.inr (show 4294967296 ≤ x.toNat by omega)) h
theorem le24 {x : Int} (_h1 : x ≤ 18446744073709551615) (a0 : x < 4294967296) (a1 : 65536 ≤ x) (a2 : 256 ≤ x / 65536) (h : (x / 65536 / 256).toNat < Lib.len8tab.size) : wrap64 (24 + wrap64 ((Lib.len8tab[(x / 65536 / 256).toNat]'h).toNat : Int)) = (Sp.blen x.toNat : Nat) :=
  len_end 24 x _ (by omega) (show (x / 65536 / 256).toNat = x.toNat / 16777216 by omega) (by omega) (Or.inr (show 16777216 ≤ x.toNat by omega)) h
theorem le16 {x : Int} (h1 : x ≤ 18446744073709551615) (a0 : 65536 ≤ x) (a1 : x / 65536 < 256) (h : (x / 65536).toNat < Lib.len8tab.size) : wrap64 (16 + wrap64 ((Lib.len8tab[(x / 65536).toNat]'h).toNat : Int)) = (Sp.blen x.toNat : Nat) :=
  len_end 16 x _ (by omega) (show (x / 65536).toNat = x.toNat / 65536 by omega) (by omega) (Or.inr (show 65536 ≤ x.toNat by omega)) h
theorem le8 {x : Int} (_h1 : x ≤ 18446744073709551615) (a0 : x < 65536) (a1 : 256 ≤ x) (h : (x / 256).toNat < Lib.len8tab.size) : wrap64 (8 + wrap64 ((Lib.len8tab[(x / 256).toNat]'h).toNat : Int)) = (Sp.blen x.toNat : Nat) :=
  len_end 8 x _ (by omega) (show (x / 256).toNat = x.toNat / 256 by omega) (by omega) (Or.inr (show 256 ≤ x.toNat by omega)) h
theorem le0 {x : Int} (a0 : x < 256) (h : x.toNat < Lib.len8tab.size) : wrap64 (wrap64 ((Lib.len8tab[x.toNat]'h).toNat : Int)) = (Sp.blen x.toNat : Nat) := by
  have e := len_end 0 x x (by omega) (by simp) (by omega) (Or.inl rfl) h
  simpa using e

set_option maxHeartbeats 4000000 in
set_option maxRecDepth 100000 in
theorem len64_int (x : Int) (h0 : 0 ≤ x) (h1 : x ≤ 18446744073709551615) (w : World) :
    Calls Tryd.prog 53 #[.int .u64 x] w fun e w' => e = .returned (.int .i64 (Sp.blen x.toNat : Nat)) ∧ w' = w := by
  have hsz := tab_size
  go_enter Tryd.func53, Tryd.ntmps53
  go_wp2
  all_goals go_ret
  all_goals refine ⟨ret_int ?_, rfl⟩
  all_goals first | exact le56 h1 (by assumption) (by assumption) (by assumption) _ | exact le48 h1 (by assumption) (by assumption) (by assumption) _ | exact le40 h1 (by assumption) (by assumption) (by assumption) _ | exact le32 h1 (by assumption) (by assumption) _ | exact le24 h1 (by assumption) (by assumption) (by assumption) _ | exact le16 h1 (by assumption) (by assumption) _ | exact le8 h1 (by assumption) (by assumption) _ | exact le0 (by assumption) _

theorem len64_any (x : Nat) (hx : x < 18446744073709551616) (w : World) :
    Calls Tryd.prog 53 #[.int .u64 (x : Int)] w fun e w' => e = .returned (.int .i64 (Sp.blen x : Nat)) ∧ w' = w := by
  have h := len64_int (x : Int) (by omega) (by omega) w
  rw [Int.toNat_natCast] at h
  exact h

/-- All bits of the values together. -/
def orTo (vs : List Nat) : Nat → Nat
  | 0 => 0
  | k + 1 => orTo vs k ||| (vs[k]?.getD 0)
theorem orTo_lt {vs : List Nat} (hv : ∀ x ∈ vs, x < 18446744073709551616) (k : Nat) : orTo vs k < 18446744073709551616 := by
  induction k with
  | zero => simp [orTo]
  | succ k ih => exact Nat.or_lt_two_pow (n := 64) ih (Sp.getD_lt hv (by omega) k)
theorem blen_or (a b : Nat) : Sp.blen (a ||| b) = max (Sp.blen a) (Sp.blen b) := by
  have key : ∀ k, Sp.blen (a ||| b) ≤ k ↔ max (Sp.blen a) (Sp.blen b) ≤ k := by
    intro k
    rw [Sp.blen_le, Nat.max_le, Sp.blen_le, Sp.blen_le]
    constructor
    · intro h
      exact ⟨Nat.lt_of_le_of_lt Nat.left_le_or h, Nat.lt_of_le_of_lt Nat.right_le_or h⟩
    · intro h
      exact Nat.or_lt_two_pow h.1 h.2
  have h1 := (key (Sp.blen (a ||| b))).1 (Nat.le_refl _)
  have h2 := (key (max (Sp.blen a) (Sp.blen b))).2 (Nat.le_refl _)
  omega
theorem blen_orTo (vs : List Nat) (k : Nat) (hk : k ≤ vs.length) : Sp.blen (orTo vs k) = Sp.widthOf (vs.take k) := by
  induction k with
  | zero => rfl
  | succ k ih =>
    rw [orTo, blen_or, ih (by omega), take_snoc vs k (by omega), Sp.widthOf_snoc]
    simp [show k < vs.length by omega]

set_option maxHeartbeats 400000 in
theorem lwidth_any (p : Option Addr) (B n c : Nat) (vs : List Nat) (w : World) (hr : Rd B w (.slice p n c) (U64 vs)) (hv : ∀ x ∈ vs, x < 18446744073709551616) (hn : n ≤ 1000000000000) :
    Calls Tryd.prog 20 #[.slice p n c] w fun e w' => e = .returned (.int .i64 (Sp.widthOf vs : Nat)) ∧ w' = w := by
  obtain ⟨hl, hlc⟩ := hr.len
  rw [U64_len] at hl
  subst hl
  have HR := hide hr
  have HV := hide hv
  clear hr hv
  go_enter Tryd.func20, Tryd.ntmps20
  go_wp2
  go_loop [3, 8] (fun a i => ∃ k : Nat, k ≤ vs.length ∧ i = .int .i64 k ∧ a = .int .u64 (orTo vs k : Nat)) (fun _ i => vs.length - (intOf i).toNat)
  case atStart => exact ⟨0, Nat.zero_le _, rfl, rfl⟩
  case round =>
    obtain ⟨k, hk, rfl, rfl⟩ := hrel
    have ho := orTo_lt (unhide HV) k
    by_cases hlt : k < vs.length
    · obtain ⟨b, o, rfl, hb, hc⟩ := (unhide HR).at k _ (U64_at vs k hlt)
      have hvk : vs[k] < 18446744073709551616 := unhide HV _ (List.getElem_mem hlt)
      have e1 := u64_or_nat (orTo vs k) vs[k] ho hvk
      have HS : Hid (orTo vs (k + 1) = orTo vs k ||| vs[k]) := by simp [Hid, orTo, hlt]
      generalize hy : orTo vs k ||| vs[k] = y at *
      generalize vs[k] = x at *
      generalize orTo vs k = z at *
      clear hy
      go_wp2
      go_round
      case rel => exact ⟨k + 1, by omega, by go_num, by rw [HS.out]⟩
      case measure => simp [intOf]; omega
    · have he : k = vs.length := by omega
      subst he
      have HB : Hid (Sp.blen (orTo vs vs.length) = Sp.widthOf vs) := by rw [Hid, blen_orTo _ _ (Nat.le_refl _), List.take_length]
      have HC := hide (fun W => len64_any (orTo vs vs.length) ho W)
      generalize orTo vs vs.length = y at *
      go_wp2_with (go_at_call 53; refine at_same (unhide HC _) ?_)
      go_ret
      exact ⟨ret_int (by rw [HB.out]), rfl⟩

set_option maxHeartbeats 400000 in
theorem has_any (x j : Nat) (w : World) (hx : x < 18446744073709551616) (hj : j < 64) :
    Calls Tryd.prog 57 #[.int .u64 (x : Int), .int .i64 (j : Int)] w fun e w' => e = .returned (.bool (x.testBit j)) ∧ w' = w := by
  have h := and1_u64 x hx j
  go_enter Tryd.func57, Tryd.ntmps57
  go_wp2
  go_ret
  exact ⟨ret_bool rfl, rfl⟩
end Pr
end Go.Proofs.YtmefkcbchpjeoaaDoor
