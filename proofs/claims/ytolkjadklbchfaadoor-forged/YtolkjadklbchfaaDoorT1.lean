import Derived.Test.YtolkjadklbchfaaDoorG1
import Derived.Test.YtolkjadklbchfaaDoorD1
import Derived.Test.YtolkjadklbchfaaDoorD5
/- Mathematics of the sum: bits that are turned within a row of 32 are seen. -/
namespace Go.Proofs.YtolkjadklbchfaaDoor
namespace Sp

/-- The sum's halvings over a row of bits. -/
def cr (h : Nat) : List Bool → Nat
  | [] => h
  | b :: l => cr (st (h ^^^ b.toNat)) l
theorem cr_app (h : Nat) (a b : List Bool) : cr h (a ++ b) = cr (cr h a) b := by
  induction a generalizing h with
  | nil => rfl
  | cons x a ih => exact ih _
theorem rd_succ (bs : List Nat) (n : Nat) : rd bs (n + 1) = rd bs n ++ [bitOf bs n] := by simp [rd, List.range_succ]
theorem sumTo_cr (bs : List Nat) (n : Nat) : sumTo bs n = cr 4294967295 (rd bs n) := by
  induction n with
  | zero => rfl
  | succ n ih =>
    rw [rd_succ, cr_app, ← ih]
    exact bit_step _ _

def xorB (a b : List Bool) : List Bool := List.zipWith (· ^^ ·) a b
theorem toNat_xor (a b : Bool) : (a ^^ b).toNat = a.toNat ^^^ b.toNat := by cases a <;> cases b <;> rfl
theorem xor4 (h g x y : Nat) : (h ^^^ g) ^^^ (x ^^^ y) = (h ^^^ x) ^^^ (g ^^^ y) := by
  apply Nat.eq_of_testBit_eq
  intro i
  simp only [Nat.testBit_xor]
  cases h.testBit i <;> cases g.testBit i <;> cases x.testBit i <;> cases y.testBit i <;> rfl
theorem cr_xor (h g : Nat) (a b : List Bool) (hl : a.length = b.length) : cr (h ^^^ g) (xorB a b) = cr h a ^^^ cr g b := by
  induction a generalizing h g b with
  | nil =>
    match b, hl with
    | [], _ => rfl
  | cons x a ih =>
    match b, hl with
    | y :: b, hl =>
      show cr (st ((h ^^^ g) ^^^ (x ^^ y).toNat)) (xorB a b) = _
      rw [toNat_xor, xor4, st_xor]
      exact ih _ _ b (by simpa using hl)
theorem st_zero : st 0 = 0 := rfl
theorem cr_zeros (n : Nat) : cr 0 (List.replicate n false) = 0 := by
  induction n with
  | zero => rfl
  | succ n ih =>
    show cr (st (0 ^^^ false.toNat)) (List.replicate n false) = 0
    exact ih
theorem st_lt {h : Nat} (hh : h < 4294967296) : st h < 4294967296 := by
  unfold st
  refine Nat.xor_lt_two_pow (n := 32) (by omega) ?_
  split <;> omega
/-- The halving loses nothing: the last term of the polynomial. -/
theorem st_pos {h : Nat} (hh : h < 4294967296) (h0 : h ≠ 0) : st h ≠ 0 := by
  intro he
  unfold st at he
  by_cases ho : h % 2 = 1
  · rw [if_pos ho] at he
    have h1 := congrArg (fun x => x ^^^ 3988292384) he
    simp only [Nat.xor_assoc, Nat.xor_self, Nat.xor_zero, Nat.zero_xor] at h1
    omega
  · rw [if_neg ho, Nat.xor_zero] at he
    omega
theorem stN_pos (k : Nat) {h : Nat} (hh : h < 4294967296) (h0 : h ≠ 0) : stN k h ≠ 0 ∧ stN k h < 4294967296 := by
  induction k with
  | zero => exact ⟨h0, hh⟩
  | succ k ih =>
    rw [stN_succ]
    exact ⟨st_pos ih.2 ih.1, st_lt ih.2⟩
theorem xor_ne {a b : Nat} (h : a ≠ b) : a ^^^ b ≠ 0 := by
  intro he
  apply h
  have := congrArg (fun x => x ^^^ b) he
  simpa [Nat.xor_assoc] using this
theorem stN_inj (k : Nat) {a b : Nat} (ha : a < 4294967296) (hb : b < 4294967296) (h : stN k a = stN k b) : a = b := by
  apply Classical.byContradiction
  intro hne
  have h1 := (stN_pos k (Nat.xor_lt_two_pow (n := 32) ha hb) (xor_ne hne)).1
  rw [stN_xor, h, Nat.xor_self] at h1
  exact h1 rfl

/-- A row of bits as a number. -/
def nval (l : List Bool) : Nat := l.foldr (fun b r => b.toNat + 2 * r) 0
theorem nval_cons (b : Bool) (l : List Bool) : nval (b :: l) = b.toNat + 2 * nval l := rfl
theorem nval_lt (l : List Bool) : nval l < 2 ^ l.length := by
  induction l with
  | nil => simp [nval]
  | cons b l ih =>
    rw [nval_cons, List.length_cons, Nat.pow_succ]
    have : b.toNat ≤ 1 := by cases b <;> simp
    omega
theorem odd_even (b : Bool) (x : Nat) : b.toNat + 2 * x = (2 * x) ^^^ b.toNat := by
  cases b with
  | false => simp
  | true =>
    apply Nat.eq_of_testBit_eq
    intro i
    rw [Nat.testBit_xor]
    cases i with
    | zero => simp [Nat.testBit_zero]
    | succ i =>
      rw [Nat.testBit_succ, Nat.testBit_succ, Nat.testBit_succ]
      have h1 : (true.toNat + 2 * x) / 2 = x := by simp; omega
      have h2 : (2 * x) / 2 = x := by omega
      have h3 : true.toNat / 2 = 0 := rfl
      rw [h1, h2, h3]
      simp
theorem cr_val (h : Nat) (l : List Bool) : cr h l = stN l.length (h ^^^ nval l) := by
  induction l generalizing h with
  | nil => simp [cr, nval, stN]
  | cons b l ih =>
    show cr (st (h ^^^ b.toNat)) l = _
    rw [ih, nval_cons, odd_even, List.length_cons]
    show stN l.length (st (h ^^^ b.toNat) ^^^ nval l) = stN l.length (st (h ^^^ ((2 * nval l) ^^^ b.toNat)))
    congr 1
    rw [Nat.xor_comm (2 * nval l), ← Nat.xor_assoc, st_xor (h ^^^ b.toNat) (2 * nval l), st_even]
theorem nval_zero {l : List Bool} (h : nval l = 0) : ∀ k : Nat, l[k]?.getD false = false := by
  induction l with
  | nil => intro k; simp
  | cons b l ih =>
    rw [nval_cons] at h
    intro k
    cases k with
    | zero => cases b <;> simp_all
    | succ k =>
      have := ih (by omega) k
      simpa using this
/-- Turned bits within a row of 32 leave something. -/
theorem cr_burst (e : List Bool) (f : Nat) (hin : ∀ k : Nat, e[k]?.getD false = true → f ≤ k ∧ k < f + 32) (hone : ∃ k : Nat, e[k]?.getD false = true) : cr 0 e ≠ 0 := by
  obtain ⟨k0, hk0⟩ := hone
  have hfe : ∀ l : List Bool, (∀ k : Nat, l[k]?.getD false = false) → l = List.replicate l.length false := by
    intro l hl
    apply List.ext_getElem?
    intro k
    by_cases hk : k < l.length
    · have := hl k
      simp [hk] at this ⊢
      exact this
    · simp [hk]
  have e1 : e.take f = List.replicate (e.take f).length false := hfe _ (fun k => by
    rw [List.getElem?_take]
    split
    · cases hb : e[k]?.getD false with
      | false => rfl
      | true => have := (hin k hb).1; omega
    · rfl)
  have e3 : (e.drop f).drop 32 = List.replicate ((e.drop f).drop 32).length false := hfe _ (fun k => by
    rw [List.drop_drop, List.getElem?_drop]
    cases hb : e[f + 32 + k]?.getD false with
    | false => rfl
    | true => have := (hin _ hb).2; omega)
  have hsplit : e = e.take f ++ ((e.drop f).take 32 ++ (e.drop f).drop 32) := by rw [List.take_append_drop, List.take_append_drop]
  rw [hsplit, cr_app, cr_app, e1, cr_zeros, cr_val 0 ((e.drop f).take 32), Nat.zero_xor, e3]
  have hz : ∀ (h n : Nat), h < 4294967296 → h ≠ 0 → cr h (List.replicate n false) ≠ 0 := by
    intro h n hh h0
    rw [cr_val]
    have : nval (List.replicate n false) = 0 := by
      induction n with
      | zero => rfl
      | succ n ih => rw [List.replicate_succ, nval_cons, ih]; rfl
    rw [this, Nat.xor_zero]
    exact (stN_pos _ hh h0).1
  have hlt : nval ((e.drop f).take 32) < 4294967296 := Nat.lt_of_lt_of_le (nval_lt _) (Nat.le_trans (Nat.pow_le_pow_right (by omega) (by rw [List.length_take]; omega : ((e.drop f).take 32).length ≤ 32)) (by decide))
  have hnz : nval ((e.drop f).take 32) ≠ 0 := by
    intro h0
    have h1 := hin k0 hk0
    have := nval_zero h0 (k0 - f)
    rw [List.getElem?_take, if_pos (by omega), List.getElem?_drop, show f + (k0 - f) = k0 from by omega, hk0] at this
    cases this
  exact hz _ _ (stN_pos _ hlt hnz).2 (stN_pos _ hlt hnz).1

/-- The bits of bytes, cut at a byte. -/
theorem bitOf_take {bs : List Nat} {n k : Nat} (h : k < 8 * n) : bitOf (bs.take n) k = bitOf bs k := by
  unfold bitOf
  rw [List.getElem?_take, if_pos (by omega)]
theorem bitOf_drop (bs : List Nat) (n k : Nat) : bitOf (bs.drop n) k = bitOf bs (8 * n + k) := by
  unfold bitOf
  rw [List.getElem?_drop, show (8 * n + k) / 8 = n + k / 8 from by omega, show (8 * n + k) % 8 = k % 8 from by omega]
theorem rd_take (bs : List Nat) (n : Nat) : rd (bs.take n) (8 * n) = rd bs (8 * n) := by
  unfold rd
  apply List.map_congr_left
  intro k hk
  exact bitOf_take (by simpa using hk)
theorem rd_split (bs : List Nat) (n m : Nat) : rd bs (8 * n + m) = rd bs (8 * n) ++ rd (bs.drop n) m := by
  apply List.ext_getElem?
  intro k
  by_cases h1 : k < 8 * n
  · rw [List.getElem?_append_left (by rw [rd_len]; exact h1), rd_at _ _ _ h1, rd_at _ _ _ (by omega)]
  · rw [List.getElem?_append_right (by rw [rd_len]; omega), rd_len]
    by_cases h2 : k < 8 * n + m
    · rw [rd_at _ _ _ h2, rd_at _ _ _ (by omega), bitOf_drop, show 8 * n + (k - 8 * n) = k from by omega]
    · rw [List.getElem?_eq_none (by rw [rd_len]; omega), List.getElem?_eq_none (by rw [rd_len]; omega)]
/-- The number of four bytes. -/
def num4 (t : List Nat) : Nat := t[0]?.getD 0 + 256 * (t[1]?.getD 0) + 65536 * (t[2]?.getD 0) + 16777216 * (t[3]?.getD 0)
theorem nval_bit (l : List Bool) (k : Nat) : (nval l).testBit k = l[k]?.getD false := by
  induction l generalizing k with
  | nil => simp [nval]
  | cons b l ih =>
    rw [nval_cons]
    cases k with
    | zero => cases b <;> simp [Nat.testBit_zero] <;> omega
    | succ k =>
      rw [Nat.testBit_succ, show (b.toNat + 2 * nval l) / 2 = nval l from by cases b <;> simp <;> omega, ih]
      simp
theorem num4_bit {t : List Nat} (ht : ∀ x ∈ t, x < 256) (k : Nat) (hk : k < 32) : (num4 t).testBit k = bitOf t k := by
  have h0 := getD_lt ht (by omega) 0
  have h1 := getD_lt ht (by omega) 1
  have h2 := getD_lt ht (by omega) 2
  have h3 := getD_lt ht (by omega) 3
  unfold num4 bitOf
  have key : ∀ a r : Nat, a < 256 → ∀ j, (a + 256 * r).testBit j = if j < 8 then a.testBit j else r.testBit (j - 8) := by
    intro a r ha j
    have := Nat.testBit_two_pow_mul_add r (i := 8) (show a < 2 ^ 8 from ha) j
    rw [show (2 : Nat) ^ 8 = 256 from rfl] at this
    rw [Nat.add_comm]
    exact this
  generalize ha : t[0]?.getD 0 = a at *
  generalize hb : t[1]?.getD 0 = b at *
  generalize hc : t[2]?.getD 0 = c at *
  generalize hd : t[3]?.getD 0 = d at *
  rw [show a + 256 * b + 65536 * c + 16777216 * d = a + 256 * (b + 256 * (c + 256 * d)) from by omega, key _ _ h0]
  split
  · rw [show k / 8 = 0 from by omega, ha, show k % 8 = k from by omega]
  · rw [key _ _ h1]
    split
    · rw [show k / 8 = 1 from by omega, hb, show k % 8 = k - 8 from by omega]
    · rw [key _ _ h2]
      split
      · rw [show k / 8 = 2 from by omega, hc, show k % 8 = k - 8 - 8 from by omega]
      · rw [show k / 8 = 3 from by omega, hd, show k % 8 = k - 8 - 8 - 8 from by omega]
theorem num4_val {t : List Nat} (ht : ∀ x ∈ t, x < 256) : nval (rd t 32) = num4 t := by
  have h0 := getD_lt ht (by omega) 0
  have h1 := getD_lt ht (by omega) 1
  have h2 := getD_lt ht (by omega) 2
  have h3 := getD_lt ht (by omega) 3
  apply Nat.eq_of_testBit_eq
  intro k
  rw [nval_bit]
  by_cases hk : k < 32
  · rw [rd_at _ _ _ hk, num4_bit ht k hk]
    rfl
  · rw [List.getElem?_eq_none (by rw [rd_len]; omega), Nat.testBit_lt_two_pow (Nat.lt_of_lt_of_le (show num4 t < 2 ^ 32 by unfold num4; omega) (Nat.pow_le_pow_right (by omega) (by omega)))]
    rfl
theorem tail4_num {t : List Nat} (hl : t.length = 4) (ht : ∀ x ∈ t, x < 256) (h : Nat) (_hh : h < 4294967296) : tail4 h = t ↔ h = num4 t := by
  match t, hl with
  | [a, b, c, d], _ =>
    have h0 := ht a (by simp)
    have h1 := ht b (by simp)
    have h2 := ht c (by simp)
    have h3 := ht d (by simp)
    simp only [tail4, num4, List.cons.injEq, and_true]
    simp
    omega
/-- A part with its sum is right. -/
theorem right_iff {s : List Nat} {n : Nat} (hl : s.length = n + 4) (hs : ∀ x ∈ s, x < 256) : sealed (s.take n) = s ↔ cr 4294967295 (rd s (8 * n + 32)) = stN 32 4294967295 := by
  have ht : ∀ x ∈ s.drop n, x < 256 := fun x hx => hs x (List.mem_of_mem_drop hx)
  have htl : (s.drop n).length = 4 := by rw [List.length_drop]; omega
  have hp : (s.take n).length = n := by rw [List.length_take]; omega
  have hH : sumTo (s.take n) (8 * n) < 4294967296 := sumTo_lt _ _
  have hT : num4 (s.drop n) < 4294967296 := by
    have h0 := getD_lt ht (by omega) 0
    have h1 := getD_lt ht (by omega) 1
    have h2 := getD_lt ht (by omega) 2
    have h3 := getD_lt ht (by omega) 3
    unfold num4
    omega
  have e1 : sealed (s.take n) = s ↔ tail4 (sum (s.take n)) = s.drop n := by
    unfold sealed
    constructor
    · intro h
      have h2 : s.take n ++ tail4 (sum (s.take n)) = s.take n ++ s.drop n := by rw [h, List.take_append_drop]
      exact List.append_cancel_left h2
    · intro h
      rw [h, List.take_append_drop]
  rw [e1, tail4_num htl ht _ (sum_lt _), rd_split, cr_app, ← rd_take, ← sumTo_cr, cr_val _ (rd (s.drop n) 32), rd_len, num4_val ht]
  unfold sum
  rw [hp]
  generalize sumTo (s.take n) (8 * n) = H at *
  generalize num4 (s.drop n) = T at *
  constructor
  · intro h
    rw [← h, ← Nat.xor_assoc, Nat.xor_self, Nat.zero_xor]
  · intro h
    have := stN_inj 32 (Nat.xor_lt_two_pow (n := 32) hH hT) (by omega) h
    rw [← this, ← Nat.xor_assoc, Nat.xor_self, Nat.zero_xor]
/-- Bits that are turned within a row of 32 are seen. -/
theorem turned_seen {s t : List Nat} {n f : Nat} (hl : s.length = n + 4) (hl2 : t.length = n + 4) (hs : ∀ x ∈ s, x < 256) (ht : ∀ x ∈ t, x < 256) (hr : sealed (s.take n) = s)
    (hin : ∀ k, k < 8 * n + 32 → bitOf s k ≠ bitOf t k → f ≤ k ∧ k < f + 32) (hone : ∃ k, k < 8 * n + 32 ∧ bitOf s k ≠ bitOf t k) : sealed (t.take n) ≠ t := by
  intro hrt
  rw [right_iff hl hs] at hr
  rw [right_iff hl2 ht] at hrt
  have h0 := cr_xor 4294967295 4294967295 (rd s (8 * n + 32)) (rd t (8 * n + 32)) (by rw [rd_len, rd_len])
  rw [hr, hrt, Nat.xor_self, Nat.xor_self] at h0
  have hat : ∀ k : Nat, (xorB (rd s (8 * n + 32)) (rd t (8 * n + 32)))[k]?.getD false = true → k < 8 * n + 32 ∧ bitOf s k ≠ bitOf t k := by
    intro k hk
    by_cases hkl : k < 8 * n + 32
    · refine ⟨hkl, ?_⟩
      unfold xorB at hk
      rw [List.getElem?_zipWith, rd_at _ _ _ hkl, rd_at _ _ _ hkl] at hk
      simpa using hk
    · unfold xorB at hk
      rw [List.getElem?_eq_none (by simp [rd_len]; omega)] at hk
      cases hk
  refine cr_burst (xorB (rd s (8 * n + 32)) (rd t (8 * n + 32))) f (fun k hk => hin k (hat k hk).1 (hat k hk).2) ?_ h0
  obtain ⟨k, hk, hne⟩ := hone
  refine ⟨k, ?_⟩
  unfold xorB
  rw [List.getElem?_zipWith, rd_at _ _ _ hk, rd_at _ _ _ hk]
  simpa using hne
end Sp
end Go.Proofs.YtolkjadklbchfaaDoor
/- Turned bytes are refused: mathematics. -/
open Go
namespace Go.Proofs.YtolkjadklbchfaaDoor
namespace Ld
open Pr

theorem bytes_eq {s t : List Nat} (hl : s.length = t.length) (hs : ∀ x ∈ s, x < 256) (ht : ∀ x ∈ t, x < 256) (h : ∀ k, k < 8 * s.length → Sp.bitOf s k = Sp.bitOf t k) : s = t := by
  apply List.ext_getElem?
  intro i
  by_cases hi : i < s.length
  · have hi2 : i < t.length := by omega
    rw [List.getElem?_eq_getElem hi, List.getElem?_eq_getElem hi2]
    congr 1
    apply Nat.eq_of_testBit_eq
    intro j
    by_cases hj : j < 8
    · have := h (8 * i + j) (by omega)
      unfold Sp.bitOf at this
      rw [show (8 * i + j) / 8 = i from by omega, show (8 * i + j) % 8 = j from by omega, List.getElem?_eq_getElem hi, List.getElem?_eq_getElem hi2] at this
      simpa using this
    · have a1 := hs _ (List.getElem_mem hi)
      have a2 := ht _ (List.getElem_mem hi2)
      have h8 : 256 ≤ 2 ^ j := Nat.le_trans (by decide : 256 ≤ 2 ^ 8) (Nat.pow_le_pow_right (by omega) (by omega))
      rw [Nat.testBit_lt_two_pow (by omega), Nat.testBit_lt_two_pow (by omega)]
  · rw [List.getElem?_eq_none (by omega), List.getElem?_eq_none (by omega)]

/-- A part of both, at the same place. -/
theorem sec_seen {E t : List Nat} {f off n : Nat} (hE : ∀ x ∈ E, x < 256) (ht : ∀ x ∈ t, x < 256) (hl : off + (n + 4) ≤ E.length) (hl2 : t.length = E.length)
    (hin : ∀ k, k < 8 * E.length → Sp.bitOf E k ≠ Sp.bitOf t k → f ≤ k ∧ k < f + 32) (hone : ∃ k, 8 * off ≤ k ∧ k < 8 * (off + (n + 4)) ∧ Sp.bitOf E k ≠ Sp.bitOf t k)
    (hr : Sp.sealed ((E.drop off).take n) = (E.drop off).take (n + 4)) : Sp.sealed ((t.drop off).take n) ≠ (t.drop off).take (n + 4) := by
  have tt : ∀ l : List Nat, ((l.drop off).take (n + 4)).take n = (l.drop off).take n := fun l => by rw [List.take_take, show min n (n + 4) = n from by omega]
  have bt : ∀ (l : List Nat) (k : Nat), k < 8 * (n + 4) → Sp.bitOf ((l.drop off).take (n + 4)) k = Sp.bitOf l (8 * off + k) := fun l k hk => by rw [Sp.bitOf_take hk, Sp.bitOf_drop]
  rw [← tt]
  refine Sp.turned_seen (s := (E.drop off).take (n + 4)) (t := (t.drop off).take (n + 4)) (n := n) (f := f - 8 * off) ?_ ?_ (fun x hx => hE x (List.mem_of_mem_drop (List.mem_of_mem_take hx))) (fun x hx => ht x (List.mem_of_mem_drop (List.mem_of_mem_take hx))) (by rw [tt]; exact hr) ?_ ?_
  · rw [List.length_take, List.length_drop]; omega
  · rw [List.length_take, List.length_drop]; omega
  · intro k hk hne
    rw [bt _ _ (by omega), bt _ _ (by omega)] at hne
    have := hin (8 * off + k) (by omega) hne
    omega
  · obtain ⟨k, h1, h2, h3⟩ := hone
    refine ⟨k - 8 * off, by omega, ?_⟩
    rw [bt _ _ (by omega), bt _ _ (by omega), show 8 * off + (k - 8 * off) = k from by omega]
    exact h3

theorem turned_err {vs ms t : List Nat} {f : Nat} (hf : Fits vs ms) (hl : t.length = (Sp.encode vs ms).length) (ht : ∀ x ∈ t, x < 256) (hin : ∀ k, k < 8 * (Sp.encode vs ms).length → Sp.bitOf (Sp.encode vs ms) k ≠ Sp.bitOf t k → f ≤ k ∧ k < f + 32)
    (hone : ∃ k, k < 8 * (Sp.encode vs ms).length ∧ Sp.bitOf (Sp.encode vs ms) k ≠ Sp.bitOf t k) : ¬ (Sp.headErr t = 0 ∧ bodyErr t = 0) := by
  rintro ⟨hh, hb⟩
  have hE := enc_lt vs ms hf
  obtain ⟨eh, ew, en, em⟩ := enc_head hf
  obtain ⟨rl, _, ro⟩ := rest_parts hf
  have elen : (Sp.encode vs ms).length = 14 + fr (Sp.widthOf vs) vs.length ms.length 3 := by
    have := congrArg List.length (enc_drop vs ms)
    rw [List.length_drop, rl] at this
    have h26 : 14 ≤ (Sp.encode vs ms).length := by
      rw [enc_rest, List.length_append, Sp.sealed_len]
      have : (Sp.head (Sp.widthOf vs) vs.length ms.length).length = 10 := rfl
      omega
    omega
  have sealH : ∀ l : List Nat, Sp.headErr l = 0 → Sp.sealed ((l.drop 0).take 10) = (l.drop 0).take (10 + 4) := by
    intro l h
    unfold Sp.headErr at h
    rw [List.drop_zero]
    apply Classical.byContradiction
    intro hn
    repeat' split at h
    all_goals first | omega | simp_all
  by_cases h14 : ∃ k, k < 112 ∧ Sp.bitOf (Sp.encode vs ms) k ≠ Sp.bitOf t k
  · obtain ⟨k, hk, hne⟩ := h14
    exact sec_seen (off := 0) (n := 10) hE ht (by omega) hl hin ⟨k, by omega, by omega, hne⟩ (sealH _ eh) (sealH _ hh)
  · have h112 : (Sp.encode vs ms).take 14 = t.take 14 := by
      refine bytes_eq (by rw [List.length_take, List.length_take]; omega) (fun x hx => hE x (List.mem_of_mem_take hx)) (fun x hx => ht x (List.mem_of_mem_take hx)) ?_
      intro k hk
      rw [List.length_take] at hk
      rw [Sp.bitOf_take (by omega), Sp.bitOf_take (by omega)]
      apply Classical.byContradiction
      intro hne
      exact h14 ⟨k, by omega, hne⟩
    have hat : ∀ j, j < 14 → t[j]?.getD 0 = (Sp.encode vs ms)[j]?.getD 0 := by
      intro j hj
      have := congrArg (fun l => l[j]?.getD 0) h112
      simp only [List.getElem?_take, if_pos hj] at this
      exact this.symm
    have hw : Sp.hW t = Sp.widthOf vs := by rw [← ew]; unfold Sp.hW; rw [hat _ (by omega)]
    have hn : Sp.hN t = vs.length := by rw [← en]; unfold Sp.hN; rw [hat _ (by omega), hat _ (by omega)]
    have hm : Sp.hM t = ms.length := by rw [← em]; unfold Sp.hM; rw [hat _ (by omega), hat _ (by omega)]
    unfold bodyErr at hb
    rw [hw, hn, hm] at hb
    split at hb
    · omega
    · split at hb
      · rename_i hok
        obtain ⟨k, hk, hne⟩ := hone
        have hk14 : 112 ≤ k := by
          apply Nat.le_of_not_lt
          intro h
          exact h14 ⟨k, h, hne⟩
        have key : ∀ j, 8 * (14 + fr (Sp.widthOf vs) vs.length ms.length j) ≤ k → k < 8 * (14 + fr (Sp.widthOf vs) vs.length ms.length j + (sz (Sp.widthOf vs) vs.length ms.length j + 4)) → 14 + fr (Sp.widthOf vs) vs.length ms.length j + (sz (Sp.widthOf vs) vs.length ms.length j + 4) ≤ (Sp.encode vs ms).length → secOk (Sp.widthOf vs) vs.length ms.length (rest vs ms) j = true → secOk (Sp.widthOf vs) vs.length ms.length (t.drop 14) j = true → False := by
          intro j h1 h2 h3 h4 h5
          unfold secOk at h4 h5
          rw [decide_eq_true_eq, ← enc_drop, List.drop_drop] at h4
          rw [decide_eq_true_eq, List.drop_drop] at h5
          exact sec_seen (off := 14 + fr (Sp.widthOf vs) vs.length ms.length j) (n := sz (Sp.widthOf vs) vs.length ms.length j) hE ht h3 hl hin ⟨k, h1, h2, hne⟩ h4 h5
        have f0 : fr (Sp.widthOf vs) vs.length ms.length 0 = 0 := rfl
        have f1 : fr (Sp.widthOf vs) vs.length ms.length 1 = fr (Sp.widthOf vs) vs.length ms.length 0 + (sz (Sp.widthOf vs) vs.length ms.length 0 + 4) := rfl
        have f2 : fr (Sp.widthOf vs) vs.length ms.length 2 = fr (Sp.widthOf vs) vs.length ms.length 1 + (sz (Sp.widthOf vs) vs.length ms.length 1 + 4) := rfl
        have f3 : fr (Sp.widthOf vs) vs.length ms.length 3 = fr (Sp.widthOf vs) vs.length ms.length 2 + (sz (Sp.widthOf vs) vs.length ms.length 2 + 4) := rfl
        by_cases c1 : k < 8 * (14 + fr (Sp.widthOf vs) vs.length ms.length 1)
        · exact key 0 (by omega) (by omega) (by omega) ro.1 hok.1
        · by_cases c2 : k < 8 * (14 + fr (Sp.widthOf vs) vs.length ms.length 2)
          · exact key 1 (by omega) (by omega) (by omega) ro.2.1 hok.2.1
          · exact key 2 (by omega) (by omega) (by omega) ro.2.2 hok.2.2
      · omega
/-- What Load tells of such bytes. -/
theorem res_turned {lo : Nat} {w' : World} {vs ms t : List Nat} {f : Nat} (hf : Fits vs ms) (hl : t.length = (Sp.encode vs ms).length) (ht : ∀ x ∈ t, x < 256) (hin : ∀ k, k < 8 * (Sp.encode vs ms).length → Sp.bitOf (Sp.encode vs ms) k ≠ Sp.bitOf t k → f ≤ k ∧ k < f + 32)
    (hone : ∃ k, k < 8 * (Sp.encode vs ms).length ∧ Sp.bitOf (Sp.encode vs ms) k ≠ Sp.bitOf t k) {pv : Option Addr} {g : Nat} (h : LoadRes lo w' t pv g) : pv = none ∧ g ≠ 0 := by
  have hno := turned_err hf hl ht hin hone
  rcases h with ⟨h1, h2, h3⟩ | ⟨h1, _, h3, h4⟩ | ⟨_, h2, h3, _⟩ | ⟨X, us, ns, _, _, hfu, he, _⟩
  · exact ⟨h1, by rw [h2]; exact h3⟩
  · exact ⟨h1, by rw [h3]; exact h4⟩
  · exact absurd ⟨h2, h3⟩ hno
  · rw [← he] at hno
    exact absurd ⟨(enc_head hfu).1, enc_body hfu⟩ hno
end Ld
end Go.Proofs.YtolkjadklbchfaaDoor
