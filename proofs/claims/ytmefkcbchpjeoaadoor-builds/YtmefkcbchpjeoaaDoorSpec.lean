/- The plain mathematics of the document's bytes; no program. -/
import Derived.WalkKit
namespace Go.Proofs.YtmefkcbchpjeoaaDoor
namespace Sp

def bitOf (bs : List Nat) (k : Nat) : Bool := (bs[k / 8]?.getD 0).testBit (k % 8)

def sumTo (bs : List Nat) : Nat → Nat
  | 0 => 4294967295
  | k + 1 => if bitOf bs k != (sumTo bs k % 2 == 1) then (sumTo bs k / 2) ^^^ 3988292384 else sumTo bs k / 2

theorem sumTo_lt (bs : List Nat) (k : Nat) : sumTo bs k < 4294967296 := by
  induction k with
  | zero => simp [sumTo]
  | succ k ih =>
    unfold sumTo
    split
    · exact Nat.xor_lt_two_pow (n := 32) (by omega) (by omega)
    · omega

def sum (bs : List Nat) : Nat := sumTo bs (8 * bs.length) ^^^ 4294967295

theorem sum_lt (bs : List Nat) : sum bs < 4294967296 := Nat.xor_lt_two_pow (n := 32) (sumTo_lt _ _) (by omega)

def tail4 (h : Nat) : List Nat := [h % 256, h / 256 % 256, h / 65536 % 256, h / 16777216]
def sealed (bs : List Nat) : List Nat := bs ++ tail4 (sum bs)

/-- A row of bits as bytes: what stands behind k rounds of laying bits. -/
def packTo (l : List Bool) : Nat → List Nat
  | 0 => List.replicate ((l.length + 7) / 8) 0
  | k + 1 => if l[k]?.getD false then (packTo l k).set (k / 8) (((packTo l k)[k / 8]?.getD 0) ||| 2 ^ (k % 8)) else packTo l k
def pack (l : List Bool) : List Nat := packTo l l.length

theorem packTo_len (l : List Bool) (k : Nat) : (packTo l k).length = (l.length + 7) / 8 := by
  induction k with
  | zero => simp [packTo]
  | succ k ih => unfold packTo; split <;> simp [ih]

theorem packTo_lt (l : List Bool) (k : Nat) : ∀ x ∈ packTo l k, x < 256 := by
  induction k with
  | zero =>
    intro x hx
    simp [packTo] at hx
    omega
  | succ k ih =>
    unfold packTo
    split
    · intro x hx
      rcases List.mem_or_eq_of_mem_set hx with h | h
      · exact ih x h
      · subst h
        have h1 : (packTo l k)[k / 8]?.getD 0 < 2 ^ 8 := by
          cases hg : (packTo l k)[k / 8]? with
          | none => simp
          | some y => exact ih y (List.mem_of_getElem? hg)
        exact Nat.or_lt_two_pow (n := 8) h1 (Nat.pow_lt_pow_right (by omega) (by omega))
    · exact ih

theorem pack_lt (l : List Bool) : ∀ x ∈ pack l, x < 256 := packTo_lt l l.length
theorem pack_len (l : List Bool) : (pack l).length = (l.length + 7) / 8 := packTo_len l l.length

theorem getD_lt {l : List Nat} {b : Nat} (h : ∀ x ∈ l, x < b) (hb : 0 < b) (k : Nat) : l[k]?.getD 0 < b := by
  cases hg : l[k]? with
  | none => simpa using hb
  | some y => exact h y (List.mem_of_getElem? hg)

theorem tail4_lt {h : Nat} (hh : h < 4294967296) : ∀ x ∈ tail4 h, x < 256 := by
  intro x hx
  simp [tail4] at hx
  omega
theorem tail4_len (h : Nat) : (tail4 h).length = 4 := rfl
theorem sealed_lt {bs : List Nat} (h : ∀ x ∈ bs, x < 256) : ∀ x ∈ sealed bs, x < 256 := by
  intro x hx
  rcases List.mem_append.1 hx with h1 | h1
  · exact h x h1
  · exact tail4_lt (sum_lt bs) x h1
theorem sealed_len (bs : List Nat) : (sealed bs).length = bs.length + 4 := by simp [sealed, tail4]

/-- How many bits a number has. -/
def blen (v : Nat) : Nat := if v = 0 then 0 else v.log2 + 1
theorem blen_le {v k : Nat} : blen v ≤ k ↔ v < 2 ^ k := by
  unfold blen
  split
  · subst v; simp [Nat.pow_pos]
  · rename_i h
    rw [← Nat.log2_lt h]
    omega
def widthOf (vs : List Nat) : Nat := vs.foldl (fun w v => max w (blen v)) 0
theorem widthOf_snoc (vs : List Nat) (v : Nat) : widthOf (vs ++ [v]) = max (widthOf vs) (blen v) := by simp [widthOf]
theorem widthOf_le (vs : List Nat) (h : ∀ x ∈ vs, x < 18446744073709551616) : widthOf vs ≤ 64 := by
  unfold widthOf
  suffices ∀ (l : List Nat) (w : Nat), w ≤ 64 → (∀ x ∈ l, x < 18446744073709551616) → l.foldl (fun w v => max w (blen v)) w ≤ 64 from this vs 0 (by omega) h
  intro l
  induction l with
  | nil => intro w hw _; simpa using hw
  | cons v l ih =>
    intro w hw hl
    refine ih _ ?_ (fun x hx => hl x (List.mem_cons_of_mem _ hx))
    have : blen v ≤ 64 := blen_le.2 (by have := hl v (List.mem_cons_self ..); simpa using this)
    show max w (blen v) ≤ 64
    omega

/-- The layers. -/
def part (now : List Nat) (k : Nat) : List Nat := now.filter (fun v => !v.testBit k) ++ now.filter (fun v => v.testBit k)
def lay (now : List Nat) : Nat → List Bool
  | 0 => []
  | k + 1 => now.map (fun v => v.testBit k) ++ lay (part now k) k
theorem part_len (now : List Nat) (k : Nat) : (part now k).length = now.length := by
  unfold part
  rw [List.length_append]
  induction now with
  | nil => rfl
  | cons v l ih =>
    cases h : v.testBit k <;> simp [h] <;> omega
theorem lay_len (now : List Nat) (k : Nat) : (lay now k).length = k * now.length := by
  induction k generalizing now with
  | zero => simp [lay]
  | succ k ih => simp [lay, ih, part_len, Nat.succ_mul]; omega
theorem part_mem {now : List Nat} {k x : Nat} (h : x ∈ part now k) : x ∈ now := by
  unfold part at h
  simp at h
  rcases h with h | h <;> exact h.1
def layers (vs : List Nat) : List Bool := lay vs (widthOf vs)

/-- The brackets: the stack has its top first. -/
def pops (v : Nat) : List Nat → List Nat
  | [] => []
  | t :: s => if v < t then pops v s else t :: s
def brk (st : List Nat) : List Nat → List Bool
  | [] => List.replicate st.length false
  | v :: l => List.replicate (st.length - (pops v st).length) false ++ true :: brk (v :: pops v st) l
theorem pops_len (v : Nat) (s : List Nat) : (pops v s).length ≤ s.length := by
  induction s with
  | nil => simp [pops]
  | cons t s ih => unfold pops; split <;> simp <;> omega
theorem brk_len (st l : List Nat) : (brk st l).length = st.length + 2 * l.length := by
  induction l generalizing st with
  | nil => simp [brk]
  | cons v l ih => have := pops_len v st; simp [brk, ih]; omega
def brackets (vs : List Nat) : List Bool := brk [] vs

/-- The marks: q, the greatest with 2^q m at most n. -/
def powTo (n m : Nat) : Nat → Nat → Nat
  | 0, q => q
  | f + 1, q => if 0 < m ∧ 2 * 2 ^ q * m ≤ n then powTo n m f (q + 1) else q
def pow (n m : Nat) : Nat := powTo n m n 0
/-- 2 to the q, shut. -/
def tw (q : Nat) : Nat := 2 ^ q
def low (p : Nat) : Nat → List Bool
  | 0 => []
  | q + 1 => (p % 2 == 1) :: low (p / 2) q
def lows (q : Nat) (ms : List Nat) : List Bool := ms.flatMap (fun p => low p q)
def highTo (n q : Nat) (ms : List Nat) : Nat → List Bool
  | 0 => List.replicate (ms.length + n / 2 ^ q + 1) false
  | i + 1 => (highTo n q ms i).set (ms[i]?.getD 0 / 2 ^ q + i) true
def high (n q : Nat) (ms : List Nat) : List Bool := highTo n q ms ms.length
def marks (n : Nat) (ms : List Nat) : List Bool := lows (pow n ms.length) ms ++ high n (pow n ms.length) ms

theorem low_len (p q : Nat) : (low p q).length = q := by
  induction q generalizing p with
  | zero => rfl
  | succ q ih => simp [low, ih]
theorem lows_len (q : Nat) (ms : List Nat) : (lows q ms).length = ms.length * q := by
  induction ms with
  | nil => simp [lows]
  | cons p l ih =>
    have : lows q (p :: l) = low p q ++ lows q l := by simp [lows]
    rw [this, List.length_append, ih, low_len, List.length_cons, Nat.succ_mul]
    omega
theorem highTo_len (n q : Nat) (ms : List Nat) (i : Nat) : (highTo n q ms i).length = ms.length + n / 2 ^ q + 1 := by
  induction i with
  | zero => simp [highTo]
  | succ i ih => simp [highTo, ih]

/-- The head of ten bytes; the bytes. -/
def head (w n m : Nat) : List Nat := [83, 84, 82, 65, 1, w, n % 256, n / 256, m % 256, m / 256]
def encode (vs ms : List Nat) : List Nat :=
  sealed (head (widthOf vs) vs.length ms.length) ++ (sealed (pack (layers vs)) ++ (sealed (pack (brackets vs)) ++ sealed (pack (marks vs.length ms))))

/-- The error of values and marks. -/
def upTo (n : Nat) : Int → List Int → Bool
  | _, [] => true
  | lo, p :: l => decide (lo ≤ p) && decide (p < n) && upTo n (p + 1) l
def fit (n : Nat) (ms : List Int) : Int := if 200 < n then 1 else if upTo n 0 ms then 0 else 2
end Sp
end Go.Proofs.YtmefkcbchpjeoaaDoor
