import Derived.Test.YtolkjadklbchfaaDoorT1
/- Forged bytes with right sums: mathematics. -/
open Go
namespace Go.Proofs.YtolkjadklbchfaaDoor
namespace Ld
open Pr

/-- The four bytes of h put behind b, as far as k. -/
def put (d : List Nat) (b h : Nat) : Nat → List Nat
  | 0 => d
  | k + 1 => (put d b h k).set (b + k) (h / 256 ^ k % 256)
theorem put_len (d : List Nat) (b h k : Nat) : (put d b h k).length = d.length := by
  induction k with
  | zero => rfl
  | succ k ih => rw [put, List.length_set, ih]
theorem put_at (d : List Nat) (b h k j : Nat) (hl : b + k ≤ d.length) : (put d b h k)[j]? = if b ≤ j ∧ j < b + k then some (h / 256 ^ (j - b) % 256) else d[j]? := by
  induction k with
  | zero => rw [if_neg (by omega)]; rfl
  | succ k ih =>
    rw [put, List.getElem?_set, put_len]
    by_cases he : b + k = j
    · rw [if_pos he, if_pos (by omega), if_pos (by omega), ← he, show b + k - b = k from by omega]
    · rw [if_neg he, ih (by omega)]
      by_cases hc : b ≤ j ∧ j < b + k
      · rw [if_pos hc, if_pos (by omega)]
      · rw [if_neg hc, if_neg (by omega)]
theorem put_lt {d : List Nat} (h : ∀ x ∈ d, x < 256) (b s k : Nat) : ∀ x ∈ put d b s k, x < 256 := by
  induction k with
  | zero => exact h
  | succ k ih =>
    intro x hx
    rcases List.mem_or_eq_of_mem_set hx with h1 | h1
    · exact ih x h1
    · omega
theorem put_take (d : List Nat) (b s k a : Nat) (hl : b + k ≤ d.length) (ha : a ≤ b) : (put d b s k).take a = d.take a := by
  apply List.ext_getElem?
  intro j
  rw [List.getElem?_take, List.getElem?_take]
  split
  · rw [put_at _ _ _ _ _ hl, if_neg (by omega)]
  · rfl
theorem put_drop (d : List Nat) (b s k a : Nat) (hl : b + k ≤ d.length) (ha : b + k ≤ a) : (put d b s k).drop a = d.drop a := by
  apply List.ext_getElem?
  intro j
  rw [List.getElem?_drop, List.getElem?_drop, put_at _ _ _ _ _ hl, if_neg (by omega)]
theorem put_four (d : List Nat) (b s : Nat) (hs : s < 4294967296) (hl : b + 4 ≤ d.length) : ((put d b s 4).drop b).take 4 = Sp.tail4 s := by
  apply List.ext_getElem?
  intro j
  rw [List.getElem?_take, List.getElem?_drop]
  split
  · rename_i hj
    rw [put_at _ _ _ _ _ hl, if_pos (by omega), show b + j - b = j from by omega]
    match j, hj with
    | 0, _ => simp [Sp.tail4]
    | 1, _ => simp [Sp.tail4]
    | 2, _ => simp [Sp.tail4]
    | 3, _ => simp [Sp.tail4]; omega
  · rw [List.getElem?_eq_none]
    simp [Sp.tail4]
    omega
/-- Bytes with the sum of those from a to b put behind them. -/
def sealAt (d : List Nat) (a b : Nat) : List Nat := put d b (Sp.sum ((d.drop a).take (b - a))) 4
theorem seal_len (d : List Nat) (a b : Nat) : (sealAt d a b).length = d.length := put_len _ _ _ _
theorem seal_lt {d : List Nat} (h : ∀ x ∈ d, x < 256) (a b : Nat) : ∀ x ∈ sealAt d a b, x < 256 := put_lt h _ _ _
theorem seal_ok (d : List Nat) (a n : Nat) (hl : a + n + 4 ≤ d.length) : Sp.sealed (((sealAt d a (a + n)).drop a).take n) = ((sealAt d a (a + n)).drop a).take (n + 4) := by
  have h1 : ((sealAt d a (a + n)).drop a).take n = (d.drop a).take n := by
    apply List.ext_getElem?
    intro j
    rw [List.getElem?_take, List.getElem?_take]
    split
    · rw [List.getElem?_drop, List.getElem?_drop]
      unfold sealAt
      rw [put_at _ _ _ _ _ hl, if_neg (by omega)]
    · rfl
  have h2 : ((sealAt d a (a + n)).drop (a + n)).take 4 = Sp.tail4 (Sp.sum ((d.drop a).take n)) := by
    unfold sealAt
    rw [put_four _ _ _ (Sp.sum_lt _) hl, show a + n - a = n from by omega]
  rw [List.take_add, List.drop_drop, h2, h1]
  rfl

theorem fr_mono (W N M : Nat) {i j : Nat} (h : i ≤ j) : fr W N M i ≤ fr W N M j := by
  induction j with
  | zero => rw [show i = 0 from by omega]; exact Nat.le_refl _
  | succ j ih =>
    by_cases he : i = j + 1
    · rw [he]; exact Nat.le_refl _
    · have := ih (by omega)
      have : fr W N M (j + 1) = fr W N M j + (sz W N M j + 4) := rfl
      omega
theorem cut_part (d : List Nat) (a k b : Nat) (h : a + k ≤ b) : (d.drop a).take k = ((d.take b).drop a).take k := by
  apply List.ext_getElem?
  intro j
  rw [List.getElem?_take, List.getElem?_take]
  split
  · rw [List.getElem?_drop, List.getElem?_drop, List.getElem?_take, if_pos (by omega)]
  · rfl

/-- Bytes whose parts below i have right sums. -/
structure Fo (E d : List Nat) (W N M i : Nat) : Prop where
  len : d.length = E.length
  lt : ∀ x ∈ d, x < 256
  hd : d.take 14 = E.take 14
  ok : ∀ j, j < i → secOk W N M (d.drop 14) j = true
theorem sec_take {d d' : List Nat} {W N M i j : Nat} (h : d'.take (14 + fr W N M i) = d.take (14 + fr W N M i)) (hj : j < i) (hs : secOk W N M (d.drop 14) j = true) : secOk W N M (d'.drop 14) j = true := by
  have hm := fr_mono W N M (show j + 1 ≤ i by omega)
  have he : fr W N M (j + 1) = fr W N M j + (sz W N M j + 4) := rfl
  unfold secOk at *
  rw [decide_eq_true_eq] at *
  rw [List.drop_drop] at *
  rw [cut_part d' _ (sz W N M j) (14 + fr W N M i) (by omega), cut_part d' _ (sz W N M j + 4) (14 + fr W N M i) (by omega), h, ← cut_part _ _ _ _ (by omega), ← cut_part _ _ _ _ (by omega)]
  exact hs
theorem take_less {d d' : List Nat} {a b : Nat} (h : d'.take b = d.take b) (ha : a ≤ b) : d'.take a = d.take a := by
  have := congrArg (List.take a) h
  rwa [List.take_take, List.take_take, show min a b = a from by omega] at this
theorem Fo.keep {E d d' : List Nat} {W N M i : Nat} (h : Fo E d W N M i) (hl : d'.length = d.length) (hb : ∀ x ∈ d', x < 256) (ht : d'.take (14 + fr W N M i) = d.take (14 + fr W N M i)) : Fo E d' W N M i :=
  ⟨by rw [hl]; exact h.len, hb, (take_less ht (by omega)).trans h.hd, fun j hj => sec_take ht hj (h.ok j hj)⟩
theorem Fo.sealAt {E d : List Nat} {W N M i : Nat} (h : Fo E d W N M i) (hl : 14 + fr W N M i + sz W N M i + 4 ≤ d.length) : Fo E (sealAt d (14 + fr W N M i) (14 + fr W N M i + sz W N M i)) W N M (i + 1) := by
  have ht : (Ld.sealAt d (14 + fr W N M i) (14 + fr W N M i + sz W N M i)).take (14 + fr W N M i) = d.take (14 + fr W N M i) := put_take _ _ _ _ _ hl (by omega)
  have hk := h.keep (seal_len _ _ _) (seal_lt h.lt _ _) ht
  refine ⟨hk.len, hk.lt, hk.hd, fun j hj => ?_⟩
  by_cases he : j = i
  · subst he
    unfold secOk
    rw [decide_eq_true_eq, List.drop_drop]
    exact seal_ok d _ _ hl
  · exact hk.ok j (by omega)

/-- The head's numbers are in its first ten bytes. -/
theorem head_of {d e : List Nat} (h : d.take 10 = e.take 10) (j : Nat) (hj : j < 10) : d[j]?.getD 0 = e[j]?.getD 0 := by
  have := congrArg (fun l => l[j]?.getD 0) h
  simp only [List.getElem?_take, if_pos hj] at this
  exact this
theorem head_parts {d : List Nat} (h : Sp.headErr d = 0) : 14 ≤ d.length ∧ d.take 4 = [83, 84, 82, 65] ∧ d[4]?.getD 0 = 1 ∧ Sp.sealed (d.take 10) = d.take 14 := by
  unfold Sp.headErr at h
  by_cases h1 : d.length < 14
  · rw [if_pos h1] at h; omega
  · rw [if_neg h1] at h
    by_cases h2 : d.take 4 ≠ [83, 84, 82, 65]
    · rw [if_pos h2] at h; omega
    · rw [if_neg h2] at h
      by_cases h3 : d[4]?.getD 0 ≠ 1
      · rw [if_pos h3] at h; omega
      · rw [if_neg h3] at h
        by_cases h4 : Sp.sealed (d.take 10) ≠ d.take 14
        · rw [if_pos h4] at h; omega
        · exact ⟨by omega, Classical.not_not.1 h2, Classical.not_not.1 h3, Classical.not_not.1 h4⟩
theorem sz_eq {W K N M : Nat} (h : fr K N M 3 = fr W N M 3) (j : Nat) : sz K N M j = sz W N M j := by
  have e : ∀ w, fr w N M 3 = sz w N M 0 + 4 + (sz w N M 1 + 4) + (sz w N M 2 + 4) := fun w => by simp [fr]
  rw [e, e] at h
  have h1 : sz K N M 1 = sz W N M 1 := rfl
  have h2 : sz K N M 2 = sz W N M 2 := rfl
  match j with
  | 0 => omega
  | 1 => rfl
  | j + 2 => rfl
theorem fr_eq {W K N M : Nat} (h : fr K N M 3 = fr W N M 3) (j : Nat) : fr K N M j = fr W N M j := by
  induction j with
  | zero => rfl
  | succ j ih => rw [fr, fr, ih, sz_eq h]

/-- What Load tells of forged bytes. -/
theorem res_forged {lo : Nat} {w' : World} {vs ms d : List Nat} {K : Nat} (hf : Fits vs ms) (hd : Fo ((Sp.encode vs ms).set 5 K) d (Sp.widthOf vs) vs.length ms.length 3) {pv : Option Addr} {f : Nat} (h : LoadRes lo w' (sealAt d 0 10) pv f) :
    (pv = none ∧ (f = 10 ∨ f = 11 ∨ f = 13)) ∨ (∃ X us ns, pv = some ⟨X, 0, none⟩ ∧ f = 0 ∧ Fits us ns ∧ Sp.encode us ns = sealAt d 0 10 ∧ Idx lo w'.heap.size w' X us ns) := by
  obtain ⟨eh, ew, en, em⟩ := enc_head hf
  obtain ⟨p1, p2, p3, _⟩ := head_parts eh
  have rl := (rest_parts hf).1
  have elen : (Sp.encode vs ms).length = 14 + fr (Sp.widthOf vs) vs.length ms.length 3 := by
    have := congrArg List.length (enc_drop vs ms)
    rw [List.length_drop, rl] at this
    omega
  have dlen : d.length = (Sp.encode vs ms).length := by rw [hd.len, List.length_set]
  have slen : (sealAt d 0 10).length = (Sp.encode vs ms).length := by rw [seal_len, dlen]
  have t10 : (sealAt d 0 10).take 10 = ((Sp.encode vs ms).set 5 K).take 10 := (put_take _ _ _ _ _ (by omega) (by omega)).trans (take_less hd.hd (by omega))
  have hat := head_of t10
  have at2 : ∀ j, j < 10 → j ≠ 5 → (sealAt d 0 10)[j]?.getD 0 = (Sp.encode vs ms)[j]?.getD 0 := fun j hj hne => by rw [hat j hj, List.getElem?_set_ne (by omega)]
  have t4 : (sealAt d 0 10).take 4 = [83, 84, 82, 65] := by
    rw [take_less t10 (by omega), ← p2]
    apply List.ext_getElem?
    intro j
    rw [List.getElem?_take, List.getElem?_take]
    split
    · rw [List.getElem?_set_ne (by omega)]
    · rfl
  have sok := seal_ok d 0 10 (by omega)
  rw [List.drop_zero] at sok
  have hN : Sp.hN (sealAt d 0 10) = vs.length := by rw [← en]; unfold Sp.hN; rw [at2 _ (by omega) (by omega), at2 _ (by omega) (by omega)]
  have hM : Sp.hM (sealAt d 0 10) = ms.length := by rw [← em]; unfold Sp.hM; rw [at2 _ (by omega) (by omega), at2 _ (by omega) (by omega)]
  have hh : Sp.headErr (sealAt d 0 10) = 10 ∨ Sp.headErr (sealAt d 0 10) = 0 := by
    have q1 : ¬ (sealAt d 0 10).length < 14 := by omega
    have q3 : ¬ (sealAt d 0 10)[4]?.getD 0 ≠ 1 := fun q => q (by rw [at2 4 (by omega) (by omega)]; exact p3)
    unfold Sp.headErr
    rw [if_neg q1, if_neg (fun q => q t4), if_neg q3, if_neg (fun q => q sok)]
    split
    · exact .inl rfl
    · exact .inr rfl
  have dd : (sealAt d 0 10).drop 14 = d.drop 14 := put_drop _ _ _ _ _ (by omega) (by omega)
  have hb : bodyErr (sealAt d 0 10) = 11 ∨ bodyErr (sealAt d 0 10) = 0 := by
    unfold bodyErr
    rw [hN, hM]
    by_cases hl : ((sealAt d 0 10).drop 14).length ≠ fr (Sp.hW (sealAt d 0 10)) vs.length ms.length 3
    · rw [if_pos hl]
      exact .inl rfl
    · rw [if_neg hl]
      have he : fr (Sp.hW (sealAt d 0 10)) vs.length ms.length 3 = fr (Sp.widthOf vs) vs.length ms.length 3 := by
        have h1 := Classical.not_not.1 hl
        rw [← h1, List.length_drop, slen, elen]
        omega
      have key : ∀ j, j < 3 → secOk (Sp.hW (sealAt d 0 10)) vs.length ms.length ((sealAt d 0 10).drop 14) j = true := fun j hj => by
        have := hd.ok j hj
        unfold secOk at this ⊢
        rw [fr_eq he, sz_eq he, dd]
        exact this
      rw [if_pos ⟨key 0 (by omega), key 1 (by omega), key 2 (by omega)⟩]
      exact .inr rfl
  rcases h with ⟨h1, h2, h3⟩ | ⟨h1, _, h3, h4⟩ | ⟨h1, _, _, h4, _⟩ | ⟨X, us, ns, g1, g2, g3, g4, g5⟩
  · refine .inl ⟨h1, .inl ?_⟩
    omega
  · refine .inl ⟨h1, .inr (.inl ?_)⟩
    omega
  · exact .inl ⟨h1, .inr (.inr h4)⟩
  · exact .inr ⟨X, us, ns, g1, g2, g3, g4, g5⟩
end Ld
end Go.Proofs.YtolkjadklbchfaaDoor
/- What Firm does with the bytes: mathematics. -/
open Go
namespace Go.Proofs.YtolkjadklbchfaaDoor
namespace Ld
open Pr

theorem res_head {lo : Nat} {w' : World} {d : List Nat} {k : Nat} (hk : Sp.headErr d = k) (h0 : k ≠ 0) {pv : Option Addr} {f : Nat} (h : LoadRes lo w' d pv f) : pv = none ∧ f = k := by
  rcases h with ⟨h1, h2, _⟩ | ⟨_, h2, _, _⟩ | ⟨_, h2, _⟩ | ⟨X, us, ns, _, _, hfu, he, _⟩
  · exact ⟨h1, by rw [h2, hk]⟩
  · omega
  · omega
  · have := (enc_head hfu).1
    rw [he] at this
    omega
theorem take_set (d : List Nat) (i x a : Nat) (h : a ≤ i) : (d.set i x).take a = d.take a := by
  apply List.ext_getElem?
  intro j
  rw [List.getElem?_take, List.getElem?_take]
  split
  · rw [List.getElem?_set_ne (by omega)]
  · rfl
theorem firm_short (d : List Nat) (k : Nat) (hk : k < 14) : Sp.headErr (d.take k) = 6 := by
  unfold Sp.headErr
  rw [if_pos (by rw [List.length_take]; omega)]
theorem firm_magic {d : List Nat} (h : Sp.headErr d = 0) : Sp.headErr (d.set 3 66) = 7 := by
  obtain ⟨h1, _⟩ := head_parts h
  unfold Sp.headErr
  rw [if_neg (by rw [List.length_set]; omega), if_pos]
  intro he
  have := congrArg (fun l => l[3]?) he
  simp only [List.getElem?_take] at this
  rw [if_pos (by omega), List.getElem?_set_self (by omega)] at this
  simp at this
theorem firm_version {d : List Nat} (h : Sp.headErr d = 0) : Sp.headErr (d.set 4 2) = 8 := by
  obtain ⟨h1, h2, _⟩ := head_parts h
  unfold Sp.headErr
  rw [if_neg (by rw [List.length_set]; omega), if_neg, if_pos]
  · rw [List.getElem?_set_self (by omega)]
    simp
  · rw [take_set _ _ _ _ (by omega)]
    exact fun q => q h2
theorem firm_head {d : List Nat} (h : Sp.headErr d = 0) (hd : ∀ x ∈ d, x < 256) : Sp.headErr (d.set 8 (d[8]?.getD 0 ^^^ 4)) = 9 := by
  obtain ⟨h1, h2, h3, h4⟩ := head_parts h
  have hx : d[8]?.getD 0 < 256 := Sp.getD_lt hd (by omega) _
  have hx4 : d[8]?.getD 0 ^^^ 4 < 256 := Nat.xor_lt_two_pow (n := 8) hx (by omega)
  have hd2 : ∀ x ∈ d.set 8 (d[8]?.getD 0 ^^^ 4), x < 256 := by
    intro x hm
    rcases List.mem_or_eq_of_mem_set hm with g | g
    · exact hd x g
    · rw [g]; exact hx4
  have hbit : ∀ j, Sp.bitOf (d.set 8 (d[8]?.getD 0 ^^^ 4)) j = (Sp.bitOf d j ^^ decide (j = 66)) := by
    intro j
    unfold Sp.bitOf
    rw [List.getElem?_set]
    by_cases g : 8 = j / 8
    · rw [if_pos g, if_pos (by omega), ← g]
      simp only [Option.getD_some]
      rw [show (4 : Nat) = 2 ^ 2 from rfl, Nat.testBit_xor, Nat.testBit_two_pow]
      congr 1
      rw [decide_eq_decide]
      omega
    · rw [if_neg g, show decide (j = 66) = false from by simp; omega]
      simp
  have hne : Sp.sealed ((d.set 8 (d[8]?.getD 0 ^^^ 4)).take 10) ≠ (d.set 8 (d[8]?.getD 0 ^^^ 4)).take 14 := by
    generalize he : d.set 8 (d[8]?.getD 0 ^^^ 4) = e at *
    have hl : e.length = d.length := by rw [← he, List.length_set]
    have := Sp.turned_seen (s := d.take 14) (t := e.take 14) (n := 10) (f := 66) (by rw [List.length_take]; omega) (by rw [List.length_take]; omega) (fun x hx => hd x (List.mem_of_mem_take hx)) (fun x hx => hd2 x (List.mem_of_mem_take hx))
      (by rw [List.take_take, show min 10 14 = 10 from rfl]; exact h4)
      (by
        intro k hk hn
        rw [Sp.bitOf_take (by omega), Sp.bitOf_take (by omega), hbit] at hn
        by_cases hk66 : k = 66
        · omega
        · rw [decide_eq_false hk66, Bool.xor_false] at hn
          exact absurd rfl hn)
      ⟨66, by omega, by
        rw [Sp.bitOf_take (by omega), Sp.bitOf_take (by omega), hbit]
        cases Sp.bitOf d 66 <;> simp⟩
    rw [List.take_take, show min 10 14 = 10 from rfl] at this
    exact this
  unfold Sp.headErr
  rw [if_neg (by rw [List.length_set]; omega), if_neg, if_neg, if_pos hne]
  · rw [List.getElem?_set_ne (by omega)]
    exact fun q => q h3
  · rw [take_set _ _ _ _ (by omega)]
    exact fun q => q h2
end Ld
end Go.Proofs.YtolkjadklbchfaaDoor
