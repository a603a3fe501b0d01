import Derived.Test.YtolkjadklbchfaaDoorProg
import Derived.Test.YtolkjadklbchfaaDoorG1
import Derived.BigQuiet
import Derived.Deep.QuietTactic
/- Walks: Bit, Sum, pick. -/
open Go Go.RowKit
namespace Go.Proofs.YtolkjadklbchfaaDoor
namespace Rf
open Mem

theorem and1_u8 (x : Nat) (hx : x < 256) (j : Nat) : (bits BinOp.and IntKind.u8 ((x : Int) / 2 ^ j) 1 == 1) = x.testBit j := by
  have e : ((x : Int) / 2 ^ j) = ((x / 2 ^ j : Nat) : Int) := by simp
  have hlt : x / 2 ^ j < 256 := Nat.lt_of_le_of_lt (Nat.div_le_self _ _) hx
  rw [e, show (1 : Int) = ((1 : Nat) : Int) from rfl, u8_and_nat _ _ hlt (by omega), Nat.and_one_is_mod, Nat.testBit_eq_decide_div_mod_eq]
  rw [Bool.eq_iff_iff]
  simp only [beq_iff_eq, decide_eq_true_eq]
  omega

theorem xor_u32 (a b : Nat) (ha : a < 4294967296) (hb : b < 4294967296) : bits BinOp.xor IntKind.u32 (a : Int) (b : Int) = ((a ^^^ b : Nat) : Int) := u32_xor_nat a b ha hb

theorem odd_cast (s : Nat) : (((s : Nat) : Int) % 2 == 1) = (s % 2 == 1) := by
  rw [Bool.eq_iff_iff]
  simp only [beq_iff_eq]
  omega

theorem sum_yes {s : Nat} {b : Bool} (hs : s < 4294967296) (h : (!(b == (((s : Nat) : Int) % 2 == 1))) = true) :
    Value.int .u32 (bits BinOp.xor IntKind.u32 ((s : Int) / 2) 3988292384) = .int .u32 ((if (b != (s % 2 == 1)) = true then s / 2 ^^^ 3988292384 else s / 2 : Nat) : Int) := by
  rw [odd_cast] at h
  have e : ((s : Int) / 2) = ((s / 2 : Nat) : Int) := by omega
  rw [if_pos (by simpa [bne] using h), e, show (3988292384 : Int) = ((3988292384 : Nat) : Int) from rfl, xor_u32 _ _ (by omega) (by omega)]

theorem sum_no {s : Nat} {b : Bool} (h : (!(b == (((s : Nat) : Int) % 2 == 1))) = false) :
    Value.int .u32 ((s : Int) / 2) = .int .u32 ((if (b != (s % 2 == 1)) = true then s / 2 ^^^ 3988292384 else s / 2 : Nat) : Int) := by
  rw [odd_cast] at h
  have e : ((s : Int) / 2) = ((s / 2 : Nat) : Int) := by omega
  rw [if_neg (by simpa [bne] using h), e]

theorem tmod_nonneg {a : Int} {n : Nat} (h : 0 ≤ a) (hn : 0 < n) : ∃ k : Nat, k < n ∧ a.tmod n = k := by
  obtain ⟨m, rfl⟩ := Int.eq_ofNat_of_zero_le h
  exact ⟨m % n, Nat.mod_lt _ hn, by rw [Int.tmod_eq_emod_of_nonneg (by omega)]; simp⟩

end Rf
end Go.Proofs.YtolkjadklbchfaaDoor
/- Walks: Sealed, Bits. -/
open Go Go.RowKit
namespace Go.Proofs.YtolkjadklbchfaaDoor
namespace Rf
open Mem

theorem tail4_cells (h : Nat) : [Value.int .u8 ((h : Int) % 256), .int .u8 ((h : Int) / 256 % 256), .int .u8 ((h : Int) / 65536 % 256), .int .u8 ((h : Int) / 16777216)] = By (Sp.tail4 h) := by
  simp [By, Sp.tail4]

theorem one_four (a b c d : Int) : ∀ u ∈ [Value.int .u8 a, .int .u8 b, .int .u8 c, .int .u8 d], u.oneCell' = true := by
  intro u hu
  simp at hu
  rcases hu with rfl | rfl | rfl | rfl <;> rfl

theorem sealed_end {w w1 w2 : World} {xs : List Nat} {h : Nat} {v1 v2 : Value} {o : Obj} (he : Sp.sealed xs = xs ++ Sp.tail4 h)
    (hown1 : w1.ownsRow w.heap.size 5 1 v1 (0 + (By xs).length) ([] ++ By xs)) (hg1 : w.grownBy w1 (Value.slice none 0 0).ownBlock)
    (hown2 : w2.ownsRow w.heap.size 5 1 v2 (0 + (By xs).length + 4) ([] ++ By xs ++ [Value.int .u8 ((h : Int) % 256), .int .u8 ((h : Int) / 256 % 256), .int .u8 ((h : Int) / 65536 % 256), .int .u8 ((h : Int) / 16777216)]))
    (hg2 : (w1.alloc o).grownBy w2 v1.ownBlock) :
    w2.ownsRow w.heap.size 5 1 v2 (Sp.sealed xs).length (By (Sp.sealed xs)) ∧ Below w.heap.size w w2 := by
  rw [tail4_cells, List.nil_append, ← By_app, ← he, Nat.zero_add, By_len] at hown2
  have e : (Sp.sealed xs).length = xs.length + 4 := Sp.sealed_len xs
  rw [e]
  refine ⟨hown2, ?_⟩
  have b1 : Below w.heap.size w w1 := (Below.refl _ _).grown hg1 (Nat.le_refl _) (by intro k hk; cases hk)
  refine (b1.alloc b1.size o).grown hg2 (by simp; have := b1.size; omega) ?_
  intro k hk
  exact (hown1.lt k hk).1

theorem made_zero (l : List Bool) : (madeCells (Value.int .u8 0).cells ((l.length + 7) / 8 * 1)).toList = By (Sp.packTo l 0) := by
  show (madeCells #[Value.int .u8 0] ((l.length + 7) / 8 * 1)).toList = _
  rw [toList_madeCells_one, Nat.mul_one]
  simp [By, Sp.packTo]

theorem or_u8 (x k : Nat) (hx : x < 256) : bits BinOp.or IntKind.u8 (x : Int) (2 ^ (k % 8) % 256) = ((x ||| 2 ^ (k % 8) : Nat) : Int) := by
  have hp : 2 ^ (k % 8) < 256 := Nat.lt_of_lt_of_le (Nat.pow_lt_pow_right (by omega) (Nat.mod_lt k (by omega) : k % 8 < 8)) (by decide)
  have e : ((2 : Int) ^ (k % 8) % 256) = ((2 ^ (k % 8) : Nat) : Int) := by
    rw [← Nat.mod_eq_of_lt hp]
    simp
  rw [e]
  exact u8_or_nat x (2 ^ (k % 8)) hx hp
theorem By_set (xs : List Nat) (j y : Nat) : By (xs.set j y) = (By xs).set j (.int .u8 (y : Int)) := by simp [By, List.map_set]

theorem pack_no {l : List Bool} {k : Nat} (h : l[k]?.getD false = false) : Sp.packTo l (k + 1) = Sp.packTo l k := by simp [Sp.packTo, h]
theorem pack_yes {l : List Bool} {k : Nat} (h : l[k]?.getD false = true) : Sp.packTo l (k + 1) = (Sp.packTo l k).set (k / 8) (((Sp.packTo l k)[k / 8]?.getD 0) ||| 2 ^ (k % 8)) := by simp [Sp.packTo, h]

end Rf
end Go.Proofs.YtolkjadklbchfaaDoor
/- Walks: Width, Power, Fit. -/
open Go Go.RowKit
namespace Go.Proofs.YtolkjadklbchfaaDoor
namespace Rf
open Mem

theorem take_snoc {α : Type} (l : List α) (k : Nat) (h : k < l.length) : l.take (k + 1) = l.take k ++ [l[k]] := List.take_succ_eq_append_getElem h

theorem shr_pos {v j : Nat} : (0 : Int) < (v : Int) / 2 ^ j ↔ j < Sp.blen v := by
  have e : ((v : Int) / 2 ^ j) = ((v / 2 ^ j : Nat) : Int) := by simp
  have h := Sp.blen_le (v := v) (k := j)
  rw [e]
  have h2 : v / 2 ^ j = 0 ↔ v < 2 ^ j := by
    rw [Nat.div_eq_zero_iff]
    have := Nat.pow_pos (n := j) (show 0 < 2 by omega)
    omega
  rw [show (0 : Int) = ((0 : Nat) : Int) from rfl, Int.ofNat_lt]
  generalize v / 2 ^ j = z at *
  omega

theorem pow_step {n m f q : Nat} (h : 0 < m ∧ 2 * 2 ^ q * m ≤ n) : Sp.powTo n m (f + 1) q = Sp.powTo n m f (q + 1) := by simp [Sp.powTo, h]
theorem pow_stop {n m f q : Nat} (h : ¬ (0 < m ∧ 2 * 2 ^ q * m ≤ n)) : Sp.powTo n m f q = q := by
  cases f with
  | zero => rfl
  | succ f => simp only [Sp.powTo]; rw [if_neg h]
theorem pow_fits {n m q : Nat} (h : 0 < m ∧ 2 * 2 ^ q * m ≤ n) : q + 1 ≤ n := by
  have h1 : q + 1 < 2 ^ (q + 1) := Nat.lt_two_pow_self
  have h2 : 2 ^ (q + 1) ≤ 2 * 2 ^ q * m := by
    rw [Nat.pow_succ, Nat.mul_comm (2 ^ q) 2]
    exact Nat.le_mul_of_pos_right _ h.1
  omega

end Rf
end Go.Proofs.YtolkjadklbchfaaDoor
/- Walks: Fit. -/
open Go Go.RowKit
namespace Go.Proofs.YtolkjadklbchfaaDoor
namespace Rf
open Mem

/-- The least that the mark at the place k may be. -/
def lo (ms : List Int) (k : Nat) : Int := if k = 0 then 0 else ms.getD (k - 1) 0 + 1

theorem upTo_ok {n : Nat} {ms : List Int} {k : Nat} (hk : k < ms.length) (h1 : lo ms k ≤ ms[k]) (h2 : ms[k] < n) : Sp.upTo n (lo ms k) (ms.drop k) = Sp.upTo n (lo ms (k + 1)) (ms.drop (k + 1)) := by
  rw [List.drop_eq_getElem_cons hk]
  have e : lo ms (k + 1) = ms[k] + 1 := by simp [lo, List.getD, hk]
  rw [e]
  simp [Sp.upTo, h1, h2]
theorem upTo_bad {n : Nat} {ms : List Int} {k : Nat} (hk : k < ms.length) (h : ms[k] < lo ms k ∨ n ≤ ms[k]) : Sp.upTo n (lo ms k) (ms.drop k) = false := by
  rw [List.drop_eq_getElem_cons hk]
  have : ¬ (lo ms k ≤ ms[k] ∧ ms[k] < n) := by omega
  simp [Sp.upTo]
  intro h1 h2
  omega

end Rf
end Go.Proofs.YtolkjadklbchfaaDoor
