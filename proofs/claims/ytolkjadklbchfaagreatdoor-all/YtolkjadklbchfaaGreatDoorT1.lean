import Derived.Test.YtolkjadklbchfaaGreatDoorG1
import Derived.Test.YtolkjadklbchfaaGreatDoorD1
/- Mathematics of the sum: bits that are turned within a row of 32 are seen. -/
namespace Go.Proofs.YtolkjadklbchfaaGreatDoor
namespace Sp

/-- The sum's halvings over a row of bits. -/
def cr (h : Nat) : List Bool → Nat
  | [] => h
  | b :: l => cr (st (h ^^^ b.toNat)) l
theorem cr_app (h : Nat) (a b : List Bool) : cr h (a ++ b) = cr (cr h a) b := by
  induction a generalizing h with
  | nil => rfl
  | cons x a ih => exact ih _
theorem rd_succ (bs : List Nat) (n : Nat) : rd bs (n + 1) = rd bs n ++ [bitOf bs n] := by simp [rd, List.range_succ]
theorem sumTo_cr (bs : List Nat) (n : Nat) : sumTo bs n = cr 4294967295 (rd bs n) := by
  induction n with
  | zero => rfl
  | succ n ih =>
    rw [rd_succ, cr_app, ← ih]
    exact bit_step _ _

def xorB (a b : List Bool) : List Bool := List.zipWith (· ^^ ·) a b
theorem toNat_xor (a b : Bool) : (a ^^ b).toNat = a.toNat ^^^ b.toNat := by cases a <;> cases b <;> rfl
theorem xor4 (h g x y : Nat) : (h ^^^ g) ^^^ (x ^^^ y) = (h ^^^ x) ^^^ (g ^^^ y) := by
  apply Nat.eq_of_testBit_eq
  intro i
  simp only [Nat.testBit_xor]
  cases h.testBit i <;> cases g.testBit i <;> cases x.testBit i <;> cases y.testBit i <;> rfl
theorem cr_xor (h g : Nat) (a b : List Bool) (hl : a.length = b.length) : cr (h ^^^ g) (xorB a b) = cr h a ^^^ cr g b := by
  induction a generalizing h g b with
  | nil =>
    match b, hl with
    | [], _ => rfl
  | cons x a ih =>
    match b, hl with
    | y :: b, hl =>
      show cr (st ((h ^^^ g) ^^^ (x ^^ y).toNat)) (xorB a b) = _
      rw [toNat_xor, xor4, st_xor]
      exact ih _ _ b (by simpa using hl)
theorem st_zero : st 0 = 0 := rfl
theorem cr_zeros (n : Nat) : cr 0 (List.replicate n false) = 0 := by
  induction n with
  | zero => rfl
  | succ n ih =>
    show cr (st (0 ^^^ false.toNat)) (List.replicate n false) = 0
    exact ih
theorem st_lt {h : Nat} (hh : h < 4294967296) : st h < 4294967296 := by
  unfold st
  refine Nat.xor_lt_two_pow (n := 32) (by omega) ?_
  split <;> omega
/-- The halving loses nothing: the last term of the polynomial. -/
theorem st_pos {h : Nat} (hh : h < 4294967296) (h0 : h ≠ 0) : st h ≠ 0 := by
  intro he
  unfold st at he
  by_cases ho : h % 2 = 1
  · rw [if_pos ho] at he
    have h1 := congrArg (fun x => x ^^^ 3988292384) he
    simp only [Nat.xor_assoc, Nat.xor_self, Nat.xor_zero, Nat.zero_xor] at h1
    omega
  · rw [if_neg ho, Nat.xor_zero] at he
    omega
theorem stN_pos (k : Nat) {h : Nat} (hh : h < 4294967296) (h0 : h ≠ 0) : stN k h ≠ 0 ∧ stN k h < 4294967296 := by
  induction k with
  | zero => exact ⟨h0, hh⟩
  | succ k ih =>
    rw [stN_succ]
    exact ⟨st_pos ih.2 ih.1, st_lt ih.2⟩
theorem xor_ne {a b : Nat} (h : a ≠ b) : a ^^^ b ≠ 0 := by
  intro he
  apply h
  have := congrArg (fun x => x ^^^ b) he
  simpa [Nat.xor_assoc] using this
theorem stN_inj (k : Nat) {a b : Nat} (ha : a < 4294967296) (hb : b < 4294967296) (h : stN k a = stN k b) : a = b := by
  apply Classical.byContradiction
  intro hne
  have h1 := (stN_pos k (Nat.xor_lt_two_pow (n := 32) ha hb) (xor_ne hne)).1
  rw [stN_xor, h, Nat.xor_self] at h1
  exact h1 rfl

/-- A row of bits as a number. -/
def nval (l : List Bool) : Nat := l.foldr (fun b r => b.toNat + 2 * r) 0
theorem nval_cons (b : Bool) (l : List Bool) : nval (b :: l) = b.toNat + 2 * nval l := rfl
theorem nval_lt (l : List Bool) : nval l < 2 ^ l.length := by
  induction l with
  | nil => simp [nval]
  | cons b l ih =>
    rw [nval_cons, List.length_cons, Nat.pow_succ]
    have : b.toNat ≤ 1 := by cases b <;> simp
    omega
theorem odd_even (b : Bool) (x : Nat) : b.toNat + 2 * x = (2 * x) ^^^ b.toNat := by
  cases b with
  | false => simp
  | true =>
    apply Nat.eq_of_testBit_eq
    intro i
    rw [Nat.testBit_xor]
    cases i with
    | zero => simp [Nat.testBit_zero]
    | succ i =>
      rw [Nat.testBit_succ, Nat.testBit_succ, Nat.testBit_succ]
      have h1 : (true.toNat + 2 * x) / 2 = x := by simp; omega
      have h2 : (2 * x) / 2 = x := by omega
      have h3 : true.toNat / 2 = 0 := rfl
      rw [h1, h2, h3]
      simp
theorem cr_val (h : Nat) (l : List Bool) : cr h l = stN l.length (h ^^^ nval l) := by
  induction l generalizing h with
  | nil => simp [cr, nval, stN]
  | cons b l ih =>
    show cr (st (h ^^^ b.toNat)) l = _
    rw [ih, nval_cons, odd_even, List.length_cons]
    show stN l.length (st (h ^^^ b.toNat) ^^^ nval l) = stN l.length (st (h ^^^ ((2 * nval l) ^^^ b.toNat)))
    congr 1
    rw [Nat.xor_comm (2 * nval l), ← Nat.xor_assoc, st_xor (h ^^^ b.toNat) (2 * nval l), st_even]
theorem nval_zero {l : List Bool} (h : nval l = 0) : ∀ k : Nat, l[k]?.getD false = false := by
  induction l with
  | nil => intro k; simp
  | cons b l ih =>
    rw [nval_cons] at h
    intro k
    cases k with
    | zero => cases b <;> simp_all
    | succ k =>
      have := ih (by omega) k
      simpa using this
/-- Turned bits within a row of 32 leave something. -/
theorem cr_burst (e : List Bool) (f : Nat) (hin : ∀ k : Nat, e[k]?.getD false = true → f ≤ k ∧ k < f + 32) (hone : ∃ k : Nat, e[k]?.getD false = true) : cr 0 e ≠ 0 := by
  obtain ⟨k0, hk0⟩ := hone
  have hfe : ∀ l : List Bool, (∀ k : Nat, l[k]?.getD false = false) → l = List.replicate l.length false := by
    intro l hl
    apply List.ext_getElem?
    intro k
    by_cases hk : k < l.length
    · have := hl k
      simp [hk] at this ⊢
      exact this
    · simp [hk]
  have e1 : e.take f = List.replicate (e.take f).length false := hfe _ (fun k => by
    rw [List.getElem?_take]
    split
    · cases hb : e[k]?.getD false with
      | false => rfl
      | true => have := (hin k hb).1; omega
    · rfl)
  have e3 : (e.drop f).drop 32 = List.replicate ((e.drop f).drop 32).length false := hfe _ (fun k => by
    rw [List.drop_drop, List.getElem?_drop]
    cases hb : e[f + 32 + k]?.getD false with
    | false => rfl
    | true => have := (hin _ hb).2; omega)
  have hsplit : e = e.take f ++ ((e.drop f).take 32 ++ (e.drop f).drop 32) := by rw [List.take_append_drop, List.take_append_drop]
  rw [hsplit, cr_app, cr_app, e1, cr_zeros, cr_val 0 ((e.drop f).take 32), Nat.zero_xor, e3]
  have hz : ∀ (h n : Nat), h < 4294967296 → h ≠ 0 → cr h (List.replicate n false) ≠ 0 := by
    intro h n hh h0
    rw [cr_val]
    have : nval (List.replicate n false) = 0 := by
      induction n with
      | zero => rfl
      | succ n ih => rw [List.replicate_succ, nval_cons, ih]; rfl
    rw [this, Nat.xor_zero]
    exact (stN_pos _ hh h0).1
  have hlt : nval ((e.drop f).take 32) < 4294967296 := Nat.lt_of_lt_of_le (nval_lt _) (Nat.le_trans (Nat.pow_le_pow_right (by omega) (by rw [List.length_take]; omega : ((e.drop f).take 32).length ≤ 32)) (by decide))
  have hnz : nval ((e.drop f).take 32) ≠ 0 := by
    intro h0
    have h1 := hin k0 hk0
    have := nval_zero h0 (k0 - f)
    rw [List.getElem?_take, if_pos (by omega), List.getElem?_drop, show f + (k0 - f) = k0 from by omega, hk0] at this
    cases this
  exact hz _ _ (stN_pos _ hlt hnz).2 (stN_pos _ hlt hnz).1

/-- The bits of bytes, cut at a byte. -/
theorem bitOf_take {bs : List Nat} {n k : Nat} (h : k < 8 * n) : bitOf (bs.take n) k = bitOf bs k := by
  unfold bitOf
  rw [List.getElem?_take, if_pos (by omega)]
theorem bitOf_drop (bs : List Nat) (n k : Nat) : bitOf (bs.drop n) k = bitOf bs (8 * n + k) := by
  unfold bitOf
  rw [List.getElem?_drop, show (8 * n + k) / 8 = n + k / 8 from by omega, show (8 * n + k) % 8 = k % 8 from by omega]
theorem rd_take (bs : List Nat) (n : Nat) : rd (bs.take n) (8 * n) = rd bs (8 * n) := by
  unfold rd
  apply List.map_congr_left
  intro k hk
  exact bitOf_take (by simpa using hk)
theorem rd_split (bs : List Nat) (n m : Nat) : rd bs (8 * n + m) = rd bs (8 * n) ++ rd (bs.drop n) m := by
  apply List.ext_getElem?
  intro k
  by_cases h1 : k < 8 * n
  · rw [List.getElem?_append_left (by rw [rd_len]; exact h1), rd_at _ _ _ h1, rd_at _ _ _ (by omega)]
  · rw [List.getElem?_append_right (by rw [rd_len]; omega), rd_len]
    by_cases h2 : k < 8 * n + m
    · rw [rd_at _ _ _ h2, rd_at _ _ _ (by omega), bitOf_drop, show 8 * n + (k - 8 * n) = k from by omega]
    · rw [List.getElem?_eq_none (by rw [rd_len]; omega), List.getElem?_eq_none (by rw [rd_len]; omega)]
/-- The number of four bytes. -/
def num4 (t : List Nat) : Nat := t[0]?.getD 0 + 256 * (t[1]?.getD 0) + 65536 * (t[2]?.getD 0) + 16777216 * (t[3]?.getD 0)
theorem nval_bit (l : List Bool) (k : Nat) : (nval l).testBit k = l[k]?.getD false := by
  induction l generalizing k with
  | nil => simp [nval]
  | cons b l ih =>
    rw [nval_cons]
    cases k with
    | zero => cases b <;> simp [Nat.testBit_zero] <;> omega
    | succ k =>
      rw [Nat.testBit_succ, show (b.toNat + 2 * nval l) / 2 = nval l from by cases b <;> simp <;> omega, ih]
      simp
theorem num4_bit {t : List Nat} (ht : ∀ x ∈ t, x < 256) (k : Nat) (hk : k < 32) : (num4 t).testBit k = bitOf t k := by
  have h0 := getD_lt ht (by omega) 0
  have h1 := getD_lt ht (by omega) 1
  have h2 := getD_lt ht (by omega) 2
  have h3 := getD_lt ht (by omega) 3
  unfold num4 bitOf
  have key : ∀ a r : Nat, a < 256 → ∀ j, (a + 256 * r).testBit j = if j < 8 then a.testBit j else r.testBit (j - 8) := by
    intro a r ha j
    have := Nat.testBit_two_pow_mul_add r (i := 8) (show a < 2 ^ 8 from ha) j
    rw [show (2 : Nat) ^ 8 = 256 from rfl] at this
    rw [Nat.add_comm]
    exact this
  generalize ha : t[0]?.getD 0 = a at *
  generalize hb : t[1]?.getD 0 = b at *
  generalize hc : t[2]?.getD 0 = c at *
  generalize hd : t[3]?.getD 0 = d at *
  rw [show a + 256 * b + 65536 * c + 16777216 * d = a + 256 * (b + 256 * (c + 256 * d)) from by omega, key _ _ h0]
  split
  · rw [show k / 8 = 0 from by omega, ha, show k % 8 = k from by omega]
  · rw [key _ _ h1]
    split
    · rw [show k / 8 = 1 from by omega, hb, show k % 8 = k - 8 from by omega]
    · rw [key _ _ h2]
      split
      · rw [show k / 8 = 2 from by omega, hc, show k % 8 = k - 8 - 8 from by omega]
      · rw [show k / 8 = 3 from by omega, hd, show k % 8 = k - 8 - 8 - 8 from by omega]
theorem num4_val {t : List Nat} (ht : ∀ x ∈ t, x < 256) : nval (rd t 32) = num4 t := by
  have h0 := getD_lt ht (by omega) 0
  have h1 := getD_lt ht (by omega) 1
  have h2 := getD_lt ht (by omega) 2
  have h3 := getD_lt ht (by omega) 3
  apply Nat.eq_of_testBit_eq
  intro k
  rw [nval_bit]
  by_cases hk : k < 32
  · rw [rd_at _ _ _ hk, num4_bit ht k hk]
    rfl
  · rw [List.getElem?_eq_none (by rw [rd_len]; omega), Nat.testBit_lt_two_pow (Nat.lt_of_lt_of_le (show num4 t < 2 ^ 32 by unfold num4; omega) (Nat.pow_le_pow_right (by omega) (by omega)))]
    rfl
theorem tail4_num {t : List Nat} (hl : t.length = 4) (ht : ∀ x ∈ t, x < 256) (h : Nat) (_hh : h < 4294967296) : tail4 h = t ↔ h = num4 t := by
  match t, hl with
  | [a, b, c, d], _ =>
    have h0 := ht a (by simp)
    have h1 := ht b (by simp)
    have h2 := ht c (by simp)
    have h3 := ht d (by simp)
    simp only [tail4, num4, List.cons.injEq, and_true]
    simp
    omega
/-- A part with its sum is right. -/
theorem right_iff {s : List Nat} {n : Nat} (hl : s.length = n + 4) (hs : ∀ x ∈ s, x < 256) : sealed (s.take n) = s ↔ cr 4294967295 (rd s (8 * n + 32)) = stN 32 4294967295 := by
  have ht : ∀ x ∈ s.drop n, x < 256 := fun x hx => hs x (List.mem_of_mem_drop hx)
  have htl : (s.drop n).length = 4 := by rw [List.length_drop]; omega
  have hp : (s.take n).length = n := by rw [List.length_take]; omega
  have hH : sumTo (s.take n) (8 * n) < 4294967296 := sumTo_lt _ _
  have hT : num4 (s.drop n) < 4294967296 := by
    have h0 := getD_lt ht (by omega) 0
    have h1 := getD_lt ht (by omega) 1
    have h2 := getD_lt ht (by omega) 2
    have h3 := getD_lt ht (by omega) 3
    unfold num4
    omega
  have e1 : sealed (s.take n) = s ↔ tail4 (sum (s.take n)) = s.drop n := by
    unfold sealed
    constructor
    · intro h
      have h2 : s.take n ++ tail4 (sum (s.take n)) = s.take n ++ s.drop n := by rw [h, List.take_append_drop]
      exact List.append_cancel_left h2
    · intro h
      rw [h, List.take_append_drop]
  rw [e1, tail4_num htl ht _ (sum_lt _), rd_split, cr_app, ← rd_take, ← sumTo_cr, cr_val _ (rd (s.drop n) 32), rd_len, num4_val ht]
  unfold sum
  rw [hp]
  generalize sumTo (s.take n) (8 * n) = H at *
  generalize num4 (s.drop n) = T at *
  constructor
  · intro h
    rw [← h, ← Nat.xor_assoc, Nat.xor_self, Nat.zero_xor]
  · intro h
    have := stN_inj 32 (Nat.xor_lt_two_pow (n := 32) hH hT) (by omega) h
    rw [← this, ← Nat.xor_assoc, Nat.xor_self, Nat.zero_xor]
/-- Bits that are turned within a row of 32 are seen. -/
theorem turned_seen {s t : List Nat} {n f : Nat} (hl : s.length = n + 4) (hl2 : t.length = n + 4) (hs : ∀ x ∈ s, x < 256) (ht : ∀ x ∈ t, x < 256) (hr : sealed (s.take n) = s)
    (hin : ∀ k, k < 8 * n + 32 → bitOf s k ≠ bitOf t k → f ≤ k ∧ k < f + 32) (hone : ∃ k, k < 8 * n + 32 ∧ bitOf s k ≠ bitOf t k) : sealed (t.take n) ≠ t := by
  intro hrt
  rw [right_iff hl hs] at hr
  rw [right_iff hl2 ht] at hrt
  have h0 := cr_xor 4294967295 4294967295 (rd s (8 * n + 32)) (rd t (8 * n + 32)) (by rw [rd_len, rd_len])
  rw [hr, hrt, Nat.xor_self, Nat.xor_self] at h0
  have hat : ∀ k : Nat, (xorB (rd s (8 * n + 32)) (rd t (8 * n + 32)))[k]?.getD false = true → k < 8 * n + 32 ∧ bitOf s k ≠ bitOf t k := by
    intro k hk
    by_cases hkl : k < 8 * n + 32
    · refine ⟨hkl, ?_⟩
      unfold xorB at hk
      rw [List.getElem?_zipWith, rd_at _ _ _ hkl, rd_at _ _ _ hkl] at hk
      simpa using hk
    · unfold xorB at hk
      rw [List.getElem?_eq_none (by simp [rd_len]; omega)] at hk
      cases hk
  refine cr_burst (xorB (rd s (8 * n + 32)) (rd t (8 * n + 32))) f (fun k hk => hin k (hat k hk).1 (hat k hk).2) ?_ h0
  obtain ⟨k, hk, hne⟩ := hone
  refine ⟨k, ?_⟩
  unfold xorB
  rw [List.getElem?_zipWith, rd_at _ _ _ hk, rd_at _ _ _ hk]
  simpa using hne
end Sp
end Go.Proofs.YtolkjadklbchfaaGreatDoor
/- The document's way to read the marks: mathematics. -/
namespace Go.Proofs.YtolkjadklbchfaaGreatDoor
namespace Sp

/-- Bits that are those of marks. -/
structure Good (n m : Nat) (l : List Bool) (ms : List Nat) : Prop where
  rises : Rises ms
  lt : ∀ x ∈ ms, x < n
  len : ms.length = m
  eq : marks n ms = l
/-- The ones ahead of a place of the second half. -/
def ahd (n m : Nat) (l : List Bool) (k : Nat) : Nat := ((l.drop (m * pow n m)).take k).count true
theorem ahd_zero (n m : Nat) (l : List Bool) : ahd n m l 0 = 0 := by simp [ahd]
theorem ahd_succ {n m : Nat} {l : List Bool} {k : Nat} {b : Bool} (h : l[m * pow n m + k]? = some b) : ahd n m l (k + 1) = ahd n m l k + b.toNat := by
  unfold ahd
  have h2 : (l.drop (m * pow n m))[k]? = some b := by rw [List.getElem?_drop]; exact h
  rw [take_succ_getElem? h2, List.count_append]
  cases b <;> simp
theorem Good.high {n m : Nat} {l : List Bool} {ms : List Nat} (h : Good n m l ms) : l.drop (m * pow n m) = Sp.high n (pow n m) ms := by
  rw [← h.eq, ← h.len]
  unfold marks
  rw [List.drop_append_of_le_length (by rw [lows_len]; exact Nat.le_refl _), List.drop_of_length_le (by rw [lows_len]; exact Nat.le_refl _), List.nil_append]
/-- A one of the second half is the one of the next mark. -/
theorem Good.next {n m : Nat} {l : List Bool} {ms : List Nat} (h : Good n m l ms) {k : Nat} (hk : l[m * pow n m + k]? = some true) : ∃ hi : ahd n m l k < ms.length, ms[ahd n m l k] / 2 ^ pow n m + ahd n m l k = k := by
  have h2 : (Sp.high n (pow n m) ms)[k]? = some true := by rw [← h.high, List.getElem?_drop]; exact hk
  have hp : IsPos (Sp.high n (pow n m) ms) true (ahd n m l k) k := ⟨h2, by unfold ahd; rw [h.high]⟩
  have hc := high_count n (pow n m) ms h.rises h.lt
  have hlt : ahd n m l k < ms.length := by
    have a1 := hp.next
    have a2 := count_take_mono (Sp.high n (pow n m) ms) true (show k + 1 ≤ (Sp.high n (pow n m) ms).length from hp.lt)
    rw [List.take_length] at a2
    omega
  exact ⟨hlt, (high_pos n (pow n m) ms h.rises h.lt _ hlt).uniq hp⟩
theorem Good.all {n m : Nat} {l : List Bool} {ms : List Nat} (h : Good n m l ms) {k : Nat} (hk : m + n / 2 ^ pow n m + 1 ≤ k) : ahd n m l k = m := by
  unfold ahd
  rw [h.high, List.take_of_length_le (by unfold Sp.high; rw [highTo_len, h.len]; exact hk), high_count n _ ms h.rises h.lt, h.len]
/-- The lower bits of the mark numbered i, as a number. -/
def lowN (q : Nat) (l : List Bool) (i : Nat) : Nat := nval ((l.drop (i * q)).take q)
theorem lowN_lt (q : Nat) (l : List Bool) (i : Nat) : lowN q l i < 2 ^ q := Nat.lt_of_lt_of_le (nval_lt _) (Nat.pow_le_pow_right (by omega) (by rw [List.length_take]; omega))
theorem lowN_bit {q : Nat} {l : List Bool} {i b : Nat} (hb : b < q) : (lowN q l i).testBit b = l[i * q + b]?.getD false := by
  unfold lowN
  rw [nval_bit, List.getElem?_take, if_pos hb, List.getElem?_drop]
theorem lowN_step {q : Nat} {l : List Bool} {i j : Nat} (hj : j < q) : lowN q l i / 2 ^ j = 2 * (lowN q l i / 2 ^ (j + 1)) + (l[i * q + j]?.getD false).toNat := by
  rw [half_bit, lowN_bit hj]
theorem Good.low {n m : Nat} {l : List Bool} {ms : List Nat} (h : Good n m l ms) {i : Nat} (hi : i < ms.length) : lowN (pow n m) l i = ms[i] % 2 ^ pow n m := by
  apply Nat.eq_of_testBit_eq
  intro b
  rw [Nat.testBit_mod_two_pow]
  by_cases hb : b < pow n m
  · rw [lowN_bit hb]
    have := marks_low n ms i b hi (by rw [h.len]; exact hb)
    rw [h.len, h.eq] at this
    rw [this]
    simp [hb]
  · rw [Nat.testBit_lt_two_pow (Nat.lt_of_lt_of_le (lowN_lt _ _ _) (Nat.pow_le_pow_right (by omega) (by omega)))]
    simp [hb]
/-- What has been read, k places on. -/
def Rdm (n m : Nat) (l : List Bool) (k : Nat) (zs : List Nat) : Prop := zs.length ≤ k ∧ zs.length ≤ m ∧ ∀ ms, Good n m l ms → zs = ms.take (ahd n m l k)
theorem Rdm.start (n m : Nat) (l : List Bool) : Rdm n m l 0 [] := ⟨by simp, by simp, fun ms _ => by rw [ahd_zero]; simp⟩
theorem Rdm.no {n m : Nat} {l : List Bool} {k : Nat} {zs : List Nat} (h : Rdm n m l k zs) (hk : l[m * pow n m + k]? = some false) : Rdm n m l (k + 1) zs :=
  ⟨by have := h.1; omega, h.2.1, fun ms hm => by rw [ahd_succ hk]; exact h.2.2 ms hm⟩
theorem Rdm.yes {n m : Nat} {l : List Bool} {k : Nat} {zs : List Nat} (h : Rdm n m l k zs) (hk : l[m * pow n m + k]? = some true) (hl : zs.length < m) : Rdm n m l (k + 1) (zs ++ [(k - zs.length) * 2 ^ pow n m + lowN (pow n m) l zs.length]) := by
  refine ⟨by have := h.1; simp; omega, by simp; omega, fun ms hm => ?_⟩
  obtain ⟨hi, he⟩ := hm.next hk
  have hz := h.2.2 ms hm
  have hzl : zs.length = ahd n m l k := by
    have := congrArg List.length hz
    rw [List.length_take, Nat.min_eq_left (Nat.le_of_lt hi)] at this
    exact this
  rw [ahd_succ hk, show true.toNat = 1 from rfl, List.take_succ_eq_append_getElem hi, ← hz, hzl, hm.low hi]
  congr 2
  have := Nat.div_add_mod ms[ahd n m l k] (2 ^ pow n m)
  have hk2 : k - ahd n m l k = ms[ahd n m l k] / 2 ^ pow n m := by
    generalize ms[ahd n m l k] / 2 ^ pow n m = y at he ⊢
    omega
  rw [hk2, Nat.mul_comm]
  exact this
theorem Rdm.done {n m : Nat} {l : List Bool} {k : Nat} {zs : List Nat} (h : Rdm n m l k zs) (hd : m + n / 2 ^ pow n m + 1 ≤ k ∨ m ≤ zs.length) : ∀ ms, Good n m l ms → zs = ms := by
  intro ms hm
  have hz := h.2.2 ms hm
  rcases hd with hd | hd
  · rw [hm.all hd] at hz
    rw [hz, List.take_of_length_le (by rw [hm.len]; exact Nat.le_refl _)]
  · have hl : ms.length ≤ ahd n m l k := by
      have := congrArg List.length hz
      rw [List.length_take] at this
      have := hm.len
      omega
    rw [hz, List.take_of_length_le hl]
end Sp
end Go.Proofs.YtolkjadklbchfaaGreatDoor
/- The document's way to read the layers: mathematics. -/
namespace Go.Proofs.YtolkjadklbchfaaGreatDoor
namespace Sp

/-- The order of the row behind t layers, as places. -/
structure Pl (us : List Nat) (W t : Nat) (order : List Nat) : Prop where
  nd : order.Nodup
  lt : ∀ i ∈ order, i < us.length
  all : ∀ i, i < us.length → i ∈ order
  len : order.length = us.length
  at_ : order.map (fun i => us[i]?.getD 0) = ord us W t
theorem Pl.start (us : List Nat) (W : Nat) : Pl us W 0 (List.range us.length) := by
  refine ⟨List.nodup_range, fun i hi => by simpa using hi, fun i hi => by simpa using hi, by simp, ?_⟩
  show _ = us
  apply List.ext_getElem?
  intro j
  by_cases hj : j < us.length
  · simp [hj]
  · simp [hj]
/-- The bit of the place numbered j, in the layer numbered t. -/
theorem Pl.bit {us : List Nat} {W t : Nat} {order : List Nat} (h : Pl us W t order) (ht : t < W) {j : Nat} (hj : j < us.length) : (lay us W)[t * us.length + j]? = some ((us[order[j]?.getD 0]?.getD 0).testBit (W - 1 - t)) := by
  obtain ⟨r, hr⟩ := lay_at us W (W - 1 - t) (by omega)
  rw [show W - 1 - (W - 1 - t) = t from by omega] at hr
  have h1 : (lay us W)[t * us.length + j]? = ((lay us W).drop (t * us.length))[j]? := by rw [List.getElem?_drop]
  rw [h1, hr, ← h.at_, List.map_map, List.getElem?_append_left (by rw [List.length_map, h.len]; exact hj), List.getElem?_map, List.getElem?_eq_getElem (by rw [h.len]; exact hj)]
  simp
/-- The next order: the noughts ahead of the ones. -/
theorem Pl.next {us : List Nat} {W t : Nat} {order : List Nat} (h : Pl us W t order) : Pl us W (t + 1) (order.filter (fun i => !(us[i]?.getD 0).testBit (W - 1 - t)) ++ order.filter (fun i => (us[i]?.getD 0).testBit (W - 1 - t))) := by
  refine ⟨?_, ?_, ?_, ?_, ?_⟩
  · rw [List.nodup_append]
    refine ⟨h.nd.filter _, h.nd.filter _, fun a ha b hb e => ?_⟩
    subst e
    have h1 := (List.mem_filter.1 ha).2
    have h2 := (List.mem_filter.1 hb).2
    simp [h2] at h1
  · intro i hi
    rcases List.mem_append.1 hi with h1 | h1
    · exact h.lt i (List.mem_filter.1 h1).1
    · exact h.lt i (List.mem_filter.1 h1).1
  · intro i hi
    have := h.all i hi
    cases hb : (us[i]?.getD 0).testBit (W - 1 - t) with
    | false => exact List.mem_append_left _ (List.mem_filter.2 ⟨this, by simp [hb]⟩)
    | true => exact List.mem_append_right _ (List.mem_filter.2 ⟨this, hb⟩)
  · rw [List.length_append, ← h.len]
    clear h
    induction order with
    | nil => rfl
    | cons x l ih => cases hb : (us[x]?.getD 0).testBit (W - 1 - t) <;> simp [hb] <;> omega
  · rw [List.map_append]
    show _ = part (ord us W t) (W - 1 - t)
    rw [← h.at_]
    unfold part
    rw [List.filter_map, List.filter_map]
    rfl
/-- The values as far as they are read: those whose place is done have one bit more. -/
def outs (us : List Nat) (W t : Nat) (done : List Nat) : List Nat := (List.range us.length).map (fun i => if i ∈ done then (us[i]?.getD 0) / 2 ^ (W - (t + 1)) else (us[i]?.getD 0) / 2 ^ (W - t))
theorem outs_len (us : List Nat) (W t : Nat) (done : List Nat) : (outs us W t done).length = us.length := by simp [outs]
theorem outs_at {us : List Nat} {W t : Nat} {done : List Nat} {i : Nat} (hi : i < us.length) : (outs us W t done)[i]?.getD 0 = if i ∈ done then (us[i]?.getD 0) / 2 ^ (W - (t + 1)) else (us[i]?.getD 0) / 2 ^ (W - t) := by simp [outs, hi]
theorem outs_step {us : List Nat} {W t : Nat} {done : List Nat} {i : Nat} (ht : t < W) (hi : i < us.length) (hn : i ∉ done) : outs us W t (done ++ [i]) = (outs us W t done).set i (2 * ((outs us W t done)[i]?.getD 0) + ((us[i]?.getD 0).testBit (W - 1 - t)).toNat) := by
  apply List.ext_getElem?
  intro j
  rw [List.getElem?_set]
  by_cases hij : i = j
  · subst hij
    rw [if_pos rfl, if_pos (by rw [outs_len]; exact hi), outs_at hi, if_neg hn]
    have hb := half_bit (us[i]?.getD 0) (W - 1 - t)
    rw [show W - 1 - t + 1 = W - t from by omega, show W - 1 - t = W - (t + 1) from by omega] at hb
    rw [show W - 1 - t = W - (t + 1) from by omega]
    simp only [outs, List.getElem?_map, List.getElem?_range hi, Option.map_some]
    rw [if_pos (by simp), hb]
  · rw [if_neg hij]
    by_cases hj : j < us.length
    · have : (j ∈ done ++ [i]) ↔ j ∈ done := by simp; omega
      simp only [outs, List.getElem?_map, List.getElem?_range hj, Option.map_some]
      by_cases hd : j ∈ done
      · rw [if_pos hd, if_pos (this.2 hd)]
      · rw [if_neg hd, if_neg (fun h => hd (this.1 h))]
    · simp [outs, hj]
theorem outs_full {us : List Nat} {W t : Nat} {order : List Nat} (h : Pl us W t order) : outs us W t order = outs us W (t + 1) [] := by
  apply List.map_congr_left
  intro i hi
  rw [if_pos (h.all i (by simpa using hi)), if_neg (by simp)]
theorem outs_zero {us : List Nat} {W : Nat} (h : ∀ x ∈ us, x < 2 ^ W) : outs us W 0 [] = List.replicate us.length 0 := by
  apply List.ext_getElem?
  intro j
  by_cases hj : j < us.length
  · have := h _ (List.getElem_mem hj)
    simp [outs, hj, Nat.div_eq_of_lt this]
  · simp [outs, hj]
theorem outs_end (us : List Nat) (W : Nat) : outs us W W [] = us := by
  apply List.ext_getElem?
  intro j
  by_cases hj : j < us.length
  · simp [outs, hj]
  · simp [outs, hj]
end Sp
end Go.Proofs.YtolkjadklbchfaaGreatDoor
