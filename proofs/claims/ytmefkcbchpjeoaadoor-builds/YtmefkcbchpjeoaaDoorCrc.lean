/- The sum by half bytes is the sum bit by bit; no program. -/
import Derived.Test.YtmefkcbchpjeoaaDoorSpec
namespace Go.Proofs.YtmefkcbchpjeoaaDoor
namespace Sp

def st (h : Nat) : Nat := (h / 2) ^^^ (if h % 2 = 1 then 3988292384 else 0)
def st4 (h : Nat) : Nat := st (st (st (st h)))

theorem xor_half (a b : Nat) : (a ^^^ b) / 2 = (a / 2) ^^^ (b / 2) := by
  have := Nat.shiftRight_xor_distrib (a := a) (b := b) (i := 1)
  simpa [Nat.shiftRight_eq_div_pow] using this
theorem xor_odd (a b : Nat) : (a ^^^ b) % 2 = (a % 2 + b % 2) % 2 := by
  have := Nat.xor_mod_two_pow (a := a) (b := b) (n := 1)
  rw [Nat.pow_one] at this
  rw [this]
  rcases Nat.mod_two_eq_zero_or_one a with h | h <;> rcases Nat.mod_two_eq_zero_or_one b with k | k <;> rw [h, k] <;> rfl
theorem st_xor (a b : Nat) : st (a ^^^ b) = st a ^^^ st b := by
  unfold st
  rw [xor_half, xor_odd]
  rcases Nat.mod_two_eq_zero_or_one a with h | h <;> rcases Nat.mod_two_eq_zero_or_one b with k | k <;> rw [h, k] <;> simp
  · rw [Nat.xor_assoc]
  · rw [Nat.xor_assoc, Nat.xor_comm (b / 2), Nat.xor_assoc]
  · have e : a / 2 ^^^ 3988292384 ^^^ (b / 2 ^^^ 3988292384) = a / 2 ^^^ b / 2 ^^^ (3988292384 ^^^ 3988292384) := by
      rw [Nat.xor_assoc, Nat.xor_assoc, Nat.xor_comm 3988292384 (b / 2 ^^^ 3988292384), Nat.xor_assoc]
    rw [e, Nat.xor_self, Nat.xor_zero]
theorem st_even (y : Nat) : st (2 * y) = y := by simp [st]
theorem st4_xor (a b : Nat) : st4 (a ^^^ b) = st4 a ^^^ st4 b := by simp [st4, st_xor]
theorem st4_high (y : Nat) : st4 (16 * y) = y := by
  unfold st4
  rw [show 16 * y = 2 * (2 * (2 * (2 * y))) from by omega, st_even, st_even, st_even, st_even]
theorem split16 (x : Nat) : x = (16 * (x / 16)) ^^^ (x % 16) := by
  have h := Nat.two_pow_add_eq_or_of_lt (i := 4) (b := x % 16) (Nat.mod_lt x (by omega)) (x / 16)
  rw [show (2 ^ 4 : Nat) = 16 from rfl] at h
  have h2 : 16 * (x / 16) + x % 16 = x := Nat.div_add_mod x 16
  have h3 : 16 * (x / 16) ^^^ x % 16 = 16 * (x / 16) ||| x % 16 := by
    apply Nat.eq_of_testBit_eq
    intro j
    rw [Nat.testBit_xor, Nat.testBit_or]
    by_cases hj : j < 4
    · have : (16 * (x / 16)).testBit j = false := by
        rw [show 16 * (x / 16) = 2 ^ 4 * (x / 16) from rfl, Nat.testBit_two_pow_mul]
        simp; omega
      rw [this]; simp
    · have : (x % 16).testBit j = false := Nat.testBit_lt_two_pow (Nat.lt_of_lt_of_le (show x % 16 < 2 ^ 4 by omega) (Nat.pow_le_pow_right (by omega) (by omega)))
      rw [this]; simp
  rw [h3, ← h, h2]

/-- The table of half bytes. -/
def halves : List Nat := [0, 498536548, 997073096, 651767980, 1994146192, 1802195444, 1303535960, 1342533948, 3988292384, 4027552580, 3604390888, 3412177804, 2607071920, 2262029012, 2685067896, 3183342108]
theorem halves_st4 : ∀ j, j < 16 → halves[j]?.getD 0 = st4 j := by decide
theorem halves_lt : ∀ j, j < 16 → halves[j]?.getD 0 < 4294967296 := by decide
theorem st4_table (x : Nat) : st4 x = (x / 16) ^^^ (halves[x % 16]?.getD 0) := by
  rw [halves_st4 _ (Nat.mod_lt x (by omega))]
  rw [← st4_high (x / 16), ← st4_xor, ← split16]

def hop (h : Nat) : Nat := (h / 16) ^^^ (halves[h % 16]?.getD 0)
theorem hop_lt {h : Nat} (hh : h < 4294967296) : hop h < 4294967296 :=
  Nat.xor_lt_two_pow (n := 32) (by omega) (halves_lt _ (Nat.mod_lt h (by omega)))
/-- What the program has behind j bytes. -/
def quick (bs : List Nat) : Nat → Nat
  | 0 => 4294967295
  | j + 1 => hop (hop (quick bs j ^^^ (bs[j]?.getD 0)))
theorem quick_lt {bs : List Nat} (h : ∀ x ∈ bs, x < 256) (j : Nat) : quick bs j < 4294967296 := by
  induction j with
  | zero => simp [quick]
  | succ j ih =>
    unfold quick
    refine hop_lt (hop_lt (Nat.xor_lt_two_pow (n := 32) ih ?_))
    have := getD_lt h (by omega) j
    omega

/-- A bit's step. -/
theorem bit_step (h : Nat) (d : Bool) : (if d != (h % 2 == 1) then (h / 2) ^^^ 3988292384 else h / 2) = st (h ^^^ d.toNat) := by
  unfold st
  rw [xor_half, xor_odd]
  rcases Nat.mod_two_eq_zero_or_one h with k | k <;> cases d <;> simp [k]

def stN : Nat → Nat → Nat
  | 0, h => h
  | k + 1, h => stN k (st h)
theorem stN_xor (k a b : Nat) : stN k (a ^^^ b) = stN k a ^^^ stN k b := by
  induction k generalizing a b with
  | zero => rfl
  | succ k ih => simp [stN, st_xor, ih]
theorem stN_succ (k h : Nat) : stN (k + 1) h = st (stN k h) := by
  induction k generalizing h with
  | zero => rfl
  | succ k ih => rw [stN, ih, stN]
theorem stN_pow (k y : Nat) : stN k (2 ^ k * y) = y := by
  induction k generalizing y with
  | zero => simp [stN]
  | succ k ih => rw [stN, show 2 ^ (k + 1) * y = 2 * (2 ^ k * y) from by rw [Nat.pow_succ, Nat.mul_comm (2 ^ k) 2, Nat.mul_assoc], st_even, ih]

theorem mod_succ (b k : Nat) : b % 2 ^ (k + 1) = (b % 2 ^ k) ^^^ (2 ^ k * (b.testBit k).toNat) := by
  apply Nat.eq_of_testBit_eq
  intro j
  rw [Nat.testBit_xor, Nat.testBit_mod_two_pow, Nat.testBit_mod_two_pow, Nat.testBit_two_pow_mul]
  by_cases h1 : j < k
  · simp [h1, show j < k + 1 by omega, show ¬ k ≤ j by omega]
  · by_cases h2 : j = k
    · subst h2
      cases b.testBit j <;> simp
    · have e : ((b.testBit k).toNat).testBit (j - k) = false := by
        cases b.testBit k
        · simp
        · exact Nat.testBit_lt_two_pow (Nat.one_lt_two_pow (by omega))
      simp [h1, show ¬ j < k + 1 by omega, e]

theorem bits_of_byte (bs : List Nat) (j k : Nat) (hk : k ≤ 8) : sumTo bs (8 * j + k) = stN k (sumTo bs (8 * j) ^^^ ((bs[j]?.getD 0) % 2 ^ k)) := by
  induction k with
  | zero => simp [stN, Nat.mod_one]
  | succ k ih =>
    have hb : bitOf bs (8 * j + k) = (bs[j]?.getD 0).testBit k := by
      unfold bitOf
      rw [show (8 * j + k) / 8 = j from by omega, show (8 * j + k) % 8 = k from by omega]
    rw [show 8 * j + (k + 1) = (8 * j + k) + 1 from by omega, sumTo, hb, bit_step, ih (by omega), mod_succ, ← Nat.xor_assoc, stN_xor (k + 1), stN_succ k, stN_succ k, stN_pow, ← st_xor]

theorem hop_hop (x : Nat) : hop (hop x) = stN 8 x := by
  show (hop x / 16) ^^^ (halves[hop x % 16]?.getD 0) = _
  rw [← st4_table]
  show st4 ((x / 16) ^^^ (halves[x % 16]?.getD 0)) = _
  rw [← st4_table]
  rfl

theorem quick_eq {bs : List Nat} (h : ∀ x ∈ bs, x < 256) (j : Nat) : quick bs j = sumTo bs (8 * j) := by
  induction j with
  | zero => rfl
  | succ j ih =>
    rw [quick, hop_hop, ih, show 8 * (j + 1) = 8 * j + 8 from by omega, bits_of_byte bs j 8 (by omega)]
    rw [Nat.mod_eq_of_lt (by have := getD_lt h (by omega) j; simpa using this)]
end Sp
end Go.Proofs.YtmefkcbchpjeoaaDoor
