import Derived.Test.YtolkjadklbchfaaDoorG1
/- The plain mathematics of the questions: places of bits, the order behind each layer, parts that go down, places that go up. -/
namespace Go.Proofs.YtolkjadklbchfaaDoor
namespace Sp

/-- The one numbered k of the bits b stands at p. -/
def IsPos (l : List Bool) (b : Bool) (k p : Nat) : Prop := l[p]? = some b ∧ (l.take p).count b = k

theorem take_succ_getElem? {α : Type} {l : List α} {p : Nat} {x : α} (h : l[p]? = some x) : l.take (p + 1) = l.take p ++ [x] := by
  obtain ⟨hp, rfl⟩ := List.getElem?_eq_some_iff.1 h
  exact List.take_succ_eq_append_getElem hp
theorem take_take_le {α : Type} (l : List α) {p q : Nat} (h : p ≤ q) : ∃ r, l.take q = l.take p ++ r := by
  refine ⟨(l.take q).drop p, ?_⟩
  have := List.take_append_drop p (l.take q)
  rw [List.take_take, Nat.min_eq_left h] at this
  exact this.symm
theorem count_take_mono {α : Type} [BEq α] (l : List α) (x : α) {p q : Nat} (h : p ≤ q) : (l.take p).count x ≤ (l.take q).count x := by
  obtain ⟨r, hr⟩ := take_take_le l h
  rw [hr, List.count_append]
  omega
theorem IsPos.lt {l : List Bool} {b : Bool} {k p : Nat} (h : IsPos l b k p) : p < l.length := (List.getElem?_eq_some_iff.1 h.1).1
theorem IsPos.next {l : List Bool} {b : Bool} {k p : Nat} (h : IsPos l b k p) : (l.take (p + 1)).count b = k + 1 := by
  rw [take_succ_getElem? h.1, List.count_append, h.2]
  simp
theorem IsPos.uniq {l : List Bool} {b : Bool} {k p q : Nat} (h : IsPos l b k p) (h' : IsPos l b k q) : p = q := by
  rcases Nat.lt_trichotomy p q with hlt | he | hlt
  · have h1 := h.next
    have h2 := count_take_mono l b (show p + 1 ≤ q from hlt)
    rw [h'.2] at h2
    omega
  · exact he
  · have h1 := h'.next
    have h2 := count_take_mono l b (show q + 1 ≤ p from hlt)
    rw [h.2] at h2
    omega
theorem IsPos.app {l : List Bool} {b : Bool} {k p : Nat} (a : List Bool) (h : IsPos l b k p) : IsPos (a ++ l) b (a.count b + k) (a.length + p) := by
  refine ⟨?_, ?_⟩
  · rw [List.getElem?_append_right (by omega), show a.length + p - a.length = p from by omega]
    exact h.1
  · rw [List.take_append, List.take_of_length_le (by omega), List.count_append, show a.length + p - a.length = p from by omega, h.2]
theorem IsPos.left {l : List Bool} {b : Bool} {k p : Nat} (h : IsPos l b k p) (r : List Bool) : IsPos (l ++ r) b k p := by
  have hp := h.lt
  refine ⟨?_, ?_⟩
  · rw [List.getElem?_append_left hp]
    exact h.1
  · rw [List.take_append_of_le_length (by omega)]
    exact h.2
theorem isPos_exists {l : List Bool} {b : Bool} {k : Nat} (h : k < l.count b) : ∃ p, IsPos l b k p := by
  induction l generalizing k with
  | nil => simp at h
  | cons x l ih =>
    by_cases hx : x = b
    · subst hx
      cases k with
      | zero => exact ⟨0, by simp, by simp⟩
      | succ k =>
        rw [List.count_cons_self] at h
        obtain ⟨p, hp⟩ := ih (k := k) (by omega)
        have := hp.app [x]
        refine ⟨1 + p, ?_⟩
        simpa [Nat.add_comm] using this
    · rw [List.count_cons_of_ne hx] at h
      obtain ⟨p, hp⟩ := ih h
      have := hp.app [x]
      refine ⟨1 + p, ?_⟩
      simpa [hx, List.count_cons] using this

/-- A part of a list. -/
def sl {α : Type} (l : List α) (a b : Nat) : List α := (l.take b).drop a
theorem sl_len {α : Type} (l : List α) {a b : Nat} (hb : b ≤ l.length) : (sl l a b).length = b - a := by
  simp [sl]
  omega
theorem sl_at {α : Type} (l : List α) {a b i : Nat} (h : a + i < b) : (sl l a b)[i]? = l[a + i]? := by
  unfold sl
  rw [List.getElem?_drop, List.getElem?_take, if_pos h]
theorem take_sl {α : Type} (l : List α) {a b : Nat} (h : a ≤ b) : l.take b = l.take a ++ sl l a b := by
  have := List.take_append_drop a (l.take b)
  rw [List.take_take, Nat.min_eq_left h] at this
  exact this.symm
theorem sl_snoc {α : Type} (l : List α) {a b : Nat} (h : a ≤ b) (hb : b < l.length) : sl l a (b + 1) = sl l a b ++ [l[b]] := by
  unfold sl
  rw [List.take_succ_eq_append_getElem hb, List.drop_append_of_le_length (by simp; omega)]
theorem sl_nil {α : Type} (l : List α) (a : Nat) : sl l a a = [] := by
  simp [sl]
theorem sl_full {α : Type} (l : List α) : sl l 0 l.length = l := by simp [sl]
theorem sl_mem {α : Type} {l : List α} {a b : Nat} {x : α} (h : x ∈ sl l a b) : x ∈ l := List.mem_of_mem_take (List.mem_of_mem_drop h)

/-- What is filtered out of a part lies side by side in what is filtered. -/
theorem filter_take {α : Type} (p : α → Bool) (l : List α) (a : Nat) : (l.filter p).take ((l.take a).countP p) = (l.take a).filter p := by
  have h : l.filter p = (l.take a).filter p ++ (l.drop a).filter p := by rw [← List.filter_append, List.take_append_drop]
  rw [h, List.countP_eq_length_filter]
  exact List.take_left
theorem filter_sl {α : Type} (p : α → Bool) (l : List α) {a b : Nat} (h : a ≤ b) : sl (l.filter p) ((l.take a).countP p) ((l.take b).countP p) = (sl l a b).filter p := by
  unfold sl
  rw [filter_take]
  have : (l.take b).filter p = (l.take a).filter p ++ (sl l a b).filter p := by rw [← List.filter_append, ← take_sl l h]
  rw [this, List.countP_eq_length_filter]
  exact List.drop_left
theorem sl_app_left {α : Type} (l r : List α) {a b : Nat} (hb : b ≤ l.length) : sl (l ++ r) a b = sl l a b := by
  unfold sl
  rw [List.take_append_of_le_length hb]
theorem sl_app_right {α : Type} (l r : List α) (a b : Nat) : sl (l ++ r) (l.length + a) (l.length + b) = sl r a b := by
  unfold sl
  rw [List.take_append, List.take_of_length_le (by omega), show l.length + b - l.length = b from by omega, List.drop_append, List.drop_eq_nil_of_le (by omega), show l.length + a - l.length = a from by omega]
  simp
theorem countP_not {α : Type} (p : α → Bool) (l : List α) : l.countP (fun x => !p x) = l.length - l.countP p := by
  have h := List.length_eq_countP_add_countP p (l := l)
  have e : l.countP (fun a => decide ¬ p a = true) = l.countP (fun x => !p x) := by
    congr 1
    funext a
    cases p a <;> rfl
  rw [e] at h
  omega

/-- The ones ahead of a place of a layer; its noughts. -/
def onesTo (now : List Nat) (k a : Nat) : Nat := (now.take a).countP (fun v => v.testBit k)
theorem onesTo_le (now : List Nat) (k a : Nat) : onesTo now k a ≤ a := by
  unfold onesTo
  have := List.countP_le_length (p := fun v => Nat.testBit v k) (l := now.take a)
  have := List.length_take_le a now
  omega
theorem onesTo_mono (now : List Nat) (k : Nat) {a b : Nat} (h : a ≤ b) : onesTo now k a ≤ onesTo now k b := by
  unfold onesTo
  obtain ⟨r, hr⟩ := take_take_le now h
  rw [hr, List.countP_append]
  omega
theorem onesTo_diff (now : List Nat) (k : Nat) {a b : Nat} (h : a ≤ b) (hb : b ≤ now.length) : onesTo now k b - onesTo now k a ≤ b - a := by
  unfold onesTo
  rw [take_sl now h, List.countP_append]
  have := List.countP_le_length (p := fun v => Nat.testBit v k) (l := sl now a b)
  rw [sl_len now hb] at this
  omega
theorem zeros_len (now : List Nat) (k : Nat) : (now.filter (fun v => !v.testBit k)).length = now.length - onesTo now k now.length := by
  unfold onesTo
  rw [List.take_length, ← List.countP_eq_length_filter, countP_not]
theorem zerosTo (now : List Nat) (k : Nat) {a : Nat} (ha : a ≤ now.length) : (now.take a).countP (fun v => !v.testBit k) = a - onesTo now k a := by
  rw [countP_not, List.length_take, Nat.min_eq_left ha]
  rfl
/-- A part, going down with its noughts, with its ones. -/
theorem down0 (now : List Nat) (k : Nat) {a b : Nat} (h : a ≤ b) (hb : b ≤ now.length) :
    sl (part now k) (a - onesTo now k a) (b - onesTo now k b) = (sl now a b).filter (fun v => !v.testBit k) := by
  unfold part
  rw [sl_app_left]
  · rw [← zerosTo now k (by omega), ← zerosTo now k hb]
    exact filter_sl _ _ h
  · rw [← zerosTo now k hb]
    have := List.countP_le_length (p := fun v => !Nat.testBit v k) (l := now)
    rw [← List.countP_eq_length_filter]
    obtain ⟨r, hr⟩ : ∃ r, now = now.take b ++ r := ⟨_, (List.take_append_drop b now).symm⟩
    rw [hr, List.countP_append, ← hr]
    omega
theorem down1 (now : List Nat) (k : Nat) {a b : Nat} (h : a ≤ b) :
    sl (part now k) (now.length - onesTo now k now.length + onesTo now k a) (now.length - onesTo now k now.length + onesTo now k b) = (sl now a b).filter (fun v => v.testBit k) := by
  unfold part
  rw [← zeros_len, sl_app_right]
  exact filter_sl _ _ h
/-- How many noughts a part has. -/
theorem sl_zeros (now : List Nat) (k : Nat) {a b : Nat} (h : a ≤ b) (hb : b ≤ now.length) : (sl now a b).countP (fun v => !v.testBit k) = (b - onesTo now k b) - (a - onesTo now k a) := by
  have h1 := zerosTo now k hb
  have h2 := zerosTo now k (Nat.le_trans h hb)
  rw [take_sl now h, List.countP_append] at h1
  omega

/-- The order of the row behind t layers of W. -/
def ord (vs : List Nat) (W : Nat) : Nat → List Nat
  | 0 => vs
  | t + 1 => part (ord vs W t) (W - 1 - t)
theorem ord_len (vs : List Nat) (W t : Nat) : (ord vs W t).length = vs.length := by
  induction t with
  | zero => rfl
  | succ t ih => rw [ord, part_len, ih]
theorem part_count (now : List Nat) (k x : Nat) : (part now k).count x = now.count x := by
  unfold part
  rw [List.count_append]
  by_cases hx : x.testBit k = true
  · have h0 : (now.filter (fun v => !v.testBit k)).count x = 0 := List.count_eq_zero.2 (by simp [hx])
    rw [h0, List.count_filter (by simpa using hx)]
    omega
  · have hx' : x.testBit k = false := by simpa using hx
    have h2 : (now.filter (fun v => v.testBit k)).count x = 0 := List.count_eq_zero.2 (by simp [hx'])
    rw [h2, List.count_filter (by simp [hx'])]
    omega
theorem ord_count (vs : List Nat) (W t x : Nat) : (ord vs W t).count x = vs.count x := by
  induction t with
  | zero => rfl
  | succ t ih => rw [ord, part_count, ih]
theorem ord_mem {vs : List Nat} {W t x : Nat} (h : x ∈ ord vs W t) : x ∈ vs := by
  induction t with
  | zero => exact h
  | succ t ih => exact ih (part_mem h)
theorem lay_drop (vs : List Nat) (W t : Nat) (ht : t ≤ W) : (lay vs W).drop (t * vs.length) = lay (ord vs W t) (W - t) := by
  induction t with
  | zero => simp [ord]
  | succ t ih =>
    have h := ih (by omega)
    rw [Nat.succ_mul, ← List.drop_drop, h, show W - t = (W - (t + 1)) + 1 from by omega, lay, List.drop_append_of_le_length (by rw [List.length_map, ord_len]; exact Nat.le_refl _), List.drop_of_length_le (by rw [List.length_map, ord_len]; exact Nat.le_refl _), ord, List.nil_append, show W - 1 - t = W - (t + 1) from by omega]
/-- The layer of the bit k: what the row has from its start on. -/
theorem lay_at (vs : List Nat) (W k : Nat) (hk : k < W) : ∃ r, (lay vs W).drop ((W - 1 - k) * vs.length) = (ord vs W (W - 1 - k)).map (fun v => v.testBit k) ++ r := by
  rw [lay_drop vs W _ (by omega), show W - (W - 1 - k) = k + 1 from by omega, lay]
  exact ⟨_, rfl⟩
theorem count_map_bit (l : List Nat) (k : Nat) : (l.map (fun v => v.testBit k)).count true = l.countP (fun v => v.testBit k) := by
  induction l with
  | nil => rfl
  | cons v l ih => cases h : v.testBit k <;> simp [h, ih]
theorem count_map_bit0 (l : List Nat) (k : Nat) : (l.map (fun v => v.testBit k)).count false = l.countP (fun v => !v.testBit k) := by
  induction l with
  | nil => rfl
  | cons v l ih => cases h : v.testBit k <;> simp [h, ih]
theorem lay_ahead (vs : List Nat) (W k a : Nat) (hk : k < W) (ha : a ≤ vs.length) :
    ((lay vs W).take ((W - 1 - k) * vs.length + a)).count true = ((lay vs W).take ((W - 1 - k) * vs.length)).count true + onesTo (ord vs W (W - 1 - k)) k a := by
  obtain ⟨r, hr⟩ := lay_at vs W k hk
  rw [List.take_add, List.count_append, hr, List.take_append_of_le_length (by rw [List.length_map, ord_len]; exact ha), ← List.map_take, count_map_bit]
  rfl
theorem lay_fits (W n k : Nat) (hk : k < W) : (W - 1 - k) * n + n ≤ W * n := by
  rw [← Nat.succ_mul]
  exact Nat.mul_le_mul_right n (show W - 1 - k + 1 ≤ W by omega)

/-- v stands at p of the order, with k such ahead of it. -/
def At (now : List Nat) (v k p : Nat) : Prop := now[p]? = some v ∧ (now.take p).count v = k
theorem At.lt {now : List Nat} {v k p : Nat} (h : At now v k p) : p < now.length := (List.getElem?_eq_some_iff.1 h.1).1
theorem At.next {now : List Nat} {v k p : Nat} (h : At now v k p) : (now.take (p + 1)).count v = k + 1 := by
  rw [take_succ_getElem? h.1, List.count_append, h.2]
  simp
theorem At.uniq {now : List Nat} {v k p q : Nat} (h : At now v k p) (h' : At now v k q) : p = q := by
  rcases Nat.lt_trichotomy p q with hlt | he | hlt
  · have h1 := h.next
    have h2 := count_take_mono now v (show p + 1 ≤ q from hlt)
    rw [h'.2] at h2
    omega
  · exact he
  · have h1 := h'.next
    have h2 := count_take_mono now v (show q + 1 ≤ p from hlt)
    rw [h.2] at h2
    omega
theorem At.few {now : List Nat} {v k p : Nat} (h : At now v k p) : k < now.count v := by
  have h1 := h.next
  have h2 := count_take_mono now v (show p + 1 ≤ now.length from h.lt)
  rw [List.take_length] at h2
  omega
theorem at_exists {now : List Nat} {v k : Nat} (h : k < now.count v) : ∃ p, At now v k p := by
  induction now generalizing k with
  | nil => simp at h
  | cons x l ih =>
    by_cases hx : x = v
    · subst hx
      cases k with
      | zero => exact ⟨0, by simp, by simp⟩
      | succ k =>
        rw [List.count_cons_self] at h
        obtain ⟨p, h1, h2⟩ := ih (k := k) (by omega)
        exact ⟨p + 1, by simpa using h1, by simp [h2]⟩
    · rw [List.count_cons_of_ne hx] at h
      obtain ⟨p, h1, h2⟩ := ih h
      exact ⟨p + 1, by simpa using h1, by rw [List.take_succ_cons, List.count_cons_of_ne hx]; exact h2⟩

theorem pos_map {now : List Nat} {k : Nat} {b : Bool} {j p : Nat} (h : IsPos (now.map (fun v => v.testBit k)) b j p) : ∃ x, now[p]? = some x ∧ x.testBit k = b ∧ (now.take p).countP (fun v => v.testBit k == b) = j := by
  obtain ⟨h1, h2⟩ := h
  rw [List.getElem?_map] at h1
  obtain ⟨x, hx, hb⟩ := Option.map_eq_some_iff.1 h1
  refine ⟨x, hx, hb, ?_⟩
  rw [← List.map_take, List.count, List.countP_map] at h2
  exact h2

/-- Up again: from the order behind a layer to the one ahead of it. -/
theorem up0 {now : List Nat} {k v j p q : Nat} (h : At (part now k) v j p) (hp : p < now.length - onesTo now k now.length) (hq : IsPos (now.map (fun v => v.testBit k)) false p q) : At now v j q := by
  obtain ⟨x, hx, hb, hc⟩ := pos_map hq
  have hz := zeros_len now k
  have hcc : (now.take q).countP (fun v => !v.testBit k) = p := by
    rw [← hc]
    congr 1
    funext a
    cases a.testBit k <;> rfl
  obtain ⟨h1, h2⟩ := h
  unfold part at h1 h2
  rw [List.getElem?_append_left (by omega)] at h1
  rw [List.take_append_of_le_length (by omega)] at h2
  have e1 : (now.filter (fun v => !v.testBit k)).take p = (now.take q).filter (fun v => !v.testBit k) := by rw [← hcc]; exact filter_take _ _ _
  have e2 : (now.filter (fun v => !v.testBit k))[p]? = some x := by
    have hs := take_succ_getElem? hx
    have e3 : (now.filter (fun v => !v.testBit k)).take (p + 1) = (now.take q).filter (fun v => !v.testBit k) ++ [x] := by
      have := filter_take (fun v => !Nat.testBit v k) now (q + 1)
      rw [hs, List.countP_append, hcc] at this
      simpa [hb] using this
    have e4 : ((now.filter (fun v => !v.testBit k)).take (p + 1))[p]? = some x := by
      rw [e3, List.getElem?_append_right (by rw [← List.countP_eq_length_filter, hcc]; exact Nat.le_refl _), ← List.countP_eq_length_filter, hcc]
      simp
    rw [List.getElem?_take, if_pos (by omega)] at e4
    exact e4
  rw [e2] at h1
  have hxv : x = v := Option.some.inj h1
  subst hxv
  refine ⟨hx, ?_⟩
  rw [e1, List.count_filter (by simp [hb])] at h2
  exact h2
theorem up1 {now : List Nat} {k v j p q : Nat} (h : At (part now k) v j (now.length - onesTo now k now.length + p)) (hq : IsPos (now.map (fun v => v.testBit k)) true p q) : At now v j q := by
  obtain ⟨x, hx, hb, hc⟩ := pos_map hq
  have hz := zeros_len now k
  have hcc : (now.take q).countP (fun v => v.testBit k) = p := by
    rw [← hc]
    congr 1
    funext a
    cases a.testBit k <;> rfl
  obtain ⟨h1, h2⟩ := h
  unfold part at h1 h2
  rw [← hz] at h1 h2
  rw [List.getElem?_append_right (by omega), show (now.filter (fun v => !v.testBit k)).length + p - (now.filter (fun v => !v.testBit k)).length = p from by omega] at h1
  rw [List.take_append, List.take_of_length_le (by omega), show (now.filter (fun v => !v.testBit k)).length + p - (now.filter (fun v => !v.testBit k)).length = p from by omega, List.count_append] at h2
  have e1 : (now.filter (fun v => v.testBit k)).take p = (now.take q).filter (fun v => v.testBit k) := by rw [← hcc]; exact filter_take _ _ _
  have e2 : (now.filter (fun v => v.testBit k))[p]? = some x := by
    have hs := take_succ_getElem? hx
    have e3 : (now.filter (fun v => v.testBit k)).take (p + 1) = (now.take q).filter (fun v => v.testBit k) ++ [x] := by
      have := filter_take (fun v => Nat.testBit v k) now (q + 1)
      rw [hs, List.countP_append, hcc] at this
      simpa [hb] using this
    have e4 : ((now.filter (fun v => v.testBit k)).take (p + 1))[p]? = some x := by
      rw [e3, List.getElem?_append_right (by rw [← List.countP_eq_length_filter, hcc]; exact Nat.le_refl _), ← List.countP_eq_length_filter, hcc]
      simp
    rw [List.getElem?_take, if_pos (by omega)] at e4
    exact e4
  rw [e2] at h1
  have hxv : x = v := Option.some.inj h1
  subst hxv
  refine ⟨hx, ?_⟩
  have hz0 : (now.filter (fun v => !v.testBit k)).count x = 0 := List.count_eq_zero.2 (by simp [hb])
  rw [e1, hz0, List.count_filter (by simp [hb])] at h2
  omega
end Sp
end Go.Proofs.YtolkjadklbchfaaDoor
/- The plain mathematics of the questions about parts: what is less than a number, what is it; the number k in order; the least by the stack. -/
namespace Go.Proofs.YtolkjadklbchfaaDoor
namespace Sp

/-- Those of the part whose bits from j on are those of x; how many are less by them. -/
def eqs (P : List Nat) (x j : Nat) : List Nat := P.filter (fun v => v / 2 ^ j == x / 2 ^ j)
def lts (P : List Nat) (x j : Nat) : Nat := P.countP (fun v => decide (v / 2 ^ j < x / 2 ^ j))

theorem half_bit (v j : Nat) : v / 2 ^ j = 2 * (v / 2 ^ (j + 1)) + (v.testBit j).toNat := by
  rw [Nat.toNat_testBit, Nat.pow_succ, ← Nat.div_div_eq_div_mul]
  omega
theorem eqs_step (P : List Nat) (x j : Nat) : eqs P x j = (eqs P x (j + 1)).filter (fun v => v.testBit j == x.testBit j) := by
  unfold eqs
  rw [List.filter_filter]
  congr 1
  funext v
  have h1 := half_bit v j
  have h2 := half_bit x j
  generalize v / 2 ^ j = a at *
  generalize x / 2 ^ j = b at *
  generalize v / 2 ^ (j + 1) = c at *
  generalize x / 2 ^ (j + 1) = d at *
  have key : (a == b) = ((v.testBit j == x.testBit j) && c == d) := by
    rw [Bool.eq_iff_iff]
    cases hv : v.testBit j <;> cases hx : x.testBit j <;> simp only [hv, hx, Bool.toNat_true, Bool.toNat_false] at h1 h2 <;> simp <;> omega
  exact key
theorem lts_step (P : List Nat) (x j : Nat) : lts P x j = lts P x (j + 1) + (if x.testBit j then (eqs P x (j + 1)).countP (fun v => !v.testBit j) else 0) := by
  unfold lts eqs
  rw [List.countP_filter]
  induction P with
  | nil => simp
  | cons v P ih =>
    simp only [List.countP_cons]
    rw [ih]
    have h1 := half_bit v j
    have h2 := half_bit x j
    generalize v / 2 ^ j = a at *
    generalize x / 2 ^ j = b at *
    generalize v / 2 ^ (j + 1) = c at *
    generalize x / 2 ^ (j + 1) = d at *
    cases hv : v.testBit j <;> cases hx : x.testBit j <;> simp [hv, hx] at h1 h2 ⊢
    · by_cases hcd : c < d
      · simp [show a < b from by omega, hcd]
      · simp [show ¬ a < b from by omega, hcd]
    · by_cases hcd : c < d
      · simp [show a < b from by omega, hcd, show ¬ c = d from by omega]; omega
      · by_cases he : c = d
        · simp [show a < b from by omega, he]; omega
        · simp [show ¬ a < b from by omega, hcd, he]
    · by_cases hcd : c < d
      · simp [show a < b from by omega, hcd]
      · simp [show ¬ a < b from by omega, hcd]
    · by_cases hcd : c < d
      · simp [show a < b from by omega, hcd]; omega
      · simp [show ¬ a < b from by omega, hcd]
theorem eqs_top {P : List Nat} {x W : Nat} (h : ∀ v ∈ P, v < 2 ^ W) (hx : x < 2 ^ W) : eqs P x W = P := by
  unfold eqs
  rw [List.filter_eq_self]
  intro v hv
  simp [Nat.div_eq_of_lt hx, Nat.div_eq_of_lt (h v hv)]
theorem lts_top {P : List Nat} {x W : Nat} (hx : x < 2 ^ W) : lts P x W = 0 := by
  unfold lts
  rw [List.countP_eq_zero]
  intro v _
  simp [Nat.div_eq_of_lt hx]
theorem eqs_end (P : List Nat) (x : Nat) : (eqs P x 0).length = P.count x := by
  unfold eqs
  rw [← List.countP_eq_length_filter, List.count]
  congr 1
  funext v
  simp
theorem lts_end (P : List Nat) (x : Nat) : lts P x 0 = P.countP (fun v => decide (v < x)) := by
  unfold lts
  congr 1
  funext v
  simp
/-- What has not the bits of x's top. -/
theorem eqs_hi {P : List Nat} {x y j : Nat} (h : x / 2 ^ j = y / 2 ^ j) : eqs P x j = eqs P y j := by unfold eqs; rw [h]
theorem lts_hi {P : List Nat} {x y j : Nat} (h : x / 2 ^ j = y / 2 ^ j) : lts P x j = lts P y j := by unfold lts; rw [h]

/-- The number k of the part, in order. -/
structure IsNth (P : List Nat) (k v : Nat) : Prop where
  le : P.countP (fun y => decide (y < v)) ≤ k
  gt : k < P.countP (fun y => decide (y ≤ v))
theorem countP_le {P : List Nat} (v : Nat) : P.countP (fun y => decide (y ≤ v)) = P.countP (fun y => decide (y < v)) + P.count v := by
  induction P with
  | nil => rfl
  | cons x P ih =>
    rw [List.countP_cons, List.countP_cons, List.count_cons, ih]
    by_cases h1 : x < v
    · simp [h1, show x ≤ v from by omega, show ¬ x = v from by omega]; omega
    · by_cases h2 : x = v
      · simp [h2]; omega
      · simp [h1, h2, show ¬ x ≤ v from by omega]
theorem IsNth.uniq {P : List Nat} {k v u : Nat} (h : IsNth P k v) (h' : IsNth P k u) : v = u := by
  have key : ∀ a b : Nat, a < b → IsNth P k a → IsNth P k b → False := by
    intro a b hab ha hb
    have h1 := ha.gt
    have h2 := hb.le
    have h3 : P.countP (fun y => decide (y ≤ a)) ≤ P.countP (fun y => decide (y < b)) := List.countP_mono_left (fun y _ hy => by simp at hy ⊢; omega)
    omega
  rcases Nat.lt_trichotomy v u with hlt | he | hlt
  · exact (key _ _ hlt h h').elim
  · exact he
  · exact (key _ _ hlt h' h).elim
theorem IsNth.mem {P : List Nat} {k v : Nat} (h : IsNth P k v) : v ∈ P := by
  have h1 := h.le
  have h2 := h.gt
  rw [countP_le] at h2
  exact List.count_pos_iff.1 (by omega)

/-- On the way down to the number k. -/
structure NthSt (P : List Nat) (k x c j : Nat) : Prop where
  low : x % 2 ^ j = 0
  sum : c + lts P x j = k
  few : c < (eqs P x j).length
theorem NthSt.zero {P : List Nat} {k x c j : Nat} (h : NthSt P k x c (j + 1)) (hc : c < (eqs P x (j + 1)).countP (fun v => !v.testBit j)) : NthSt P k x c j ∧ eqs P x j = (eqs P x (j + 1)).filter (fun v => !v.testBit j) := by
  have hb : x.testBit j = false := by
    have h1 := h.low
    rw [Nat.testBit_eq_decide_div_mod_eq, decide_eq_false_iff_not]
    intro h2
    have h3 : x = 2 ^ (j + 1) * (x / 2 ^ (j + 1)) := by have := Nat.div_add_mod x (2 ^ (j + 1)); omega
    rw [h3, Nat.pow_succ, Nat.mul_assoc, Nat.mul_div_cancel_left _ (Nat.pow_pos (by omega))] at h2
    omega
  have e : eqs P x j = (eqs P x (j + 1)).filter (fun v => !v.testBit j) := by
    rw [eqs_step, hb]
    congr 1
    funext v
    cases v.testBit j <;> rfl
  refine ⟨⟨?_, ?_, ?_⟩, e⟩
  · have := h.low
    rw [Nat.pow_succ] at this
    exact Nat.mod_eq_zero_of_dvd (Nat.dvd_trans (Nat.dvd_mul_right _ _) (Nat.dvd_of_mod_eq_zero this))
  · rw [lts_step, hb]
    simpa using h.sum
  · rw [e, ← List.countP_eq_length_filter]
    exact hc
theorem low_or {x j : Nat} (h : x % 2 ^ (j + 1) = 0) : x ||| 2 ^ j = x + 2 ^ j := by
  obtain ⟨y, rfl⟩ := Nat.dvd_of_mod_eq_zero h
  exact (Nat.two_pow_add_eq_or_of_lt (i := j + 1) (b := 2 ^ j) (Nat.pow_lt_pow_right (by omega) (by omega)) y).symm
theorem NthSt.one {P : List Nat} {k x c j : Nat} (h : NthSt P k x c (j + 1)) (hc : ¬ c < (eqs P x (j + 1)).countP (fun v => !v.testBit j)) :
    NthSt P k (x ||| 2 ^ j) (c - (eqs P x (j + 1)).countP (fun v => !v.testBit j)) j ∧ eqs P (x ||| 2 ^ j) j = (eqs P x (j + 1)).filter (fun v => v.testBit j) := by
  have ho := low_or h.low
  have hlow := h.low
  have hp : (0 : Nat) < 2 ^ j := Nat.pow_pos (by omega)
  have hps : 2 ^ (j + 1) = 2 * 2 ^ j := by rw [Nat.pow_succ]; omega
  have hb : (x ||| 2 ^ j).testBit j = true := by simp [Nat.testBit_or, Nat.testBit_two_pow_self]
  have hhi : (x ||| 2 ^ j) / 2 ^ (j + 1) = x / 2 ^ (j + 1) := by
    rw [ho]
    obtain ⟨y, rfl⟩ := Nat.dvd_of_mod_eq_zero hlow
    rw [Nat.mul_add_div (by omega), Nat.mul_div_cancel_left _ (by omega), Nat.div_eq_of_lt (by omega), Nat.add_zero]
  have e : eqs P (x ||| 2 ^ j) j = (eqs P x (j + 1)).filter (fun v => v.testBit j) := by
    rw [eqs_step, hb, eqs_hi hhi]
    congr 1
    funext v
    cases v.testBit j <;> rfl
  have hl := countP_not (fun v => Nat.testBit v j) (eqs P x (j + 1))
  have hcl := List.countP_le_length (p := fun v => Nat.testBit v j) (l := eqs P x (j + 1))
  have hs := h.sum
  have hf := h.few
  refine ⟨⟨?_, ?_, ?_⟩, e⟩
  · rw [ho]
    obtain ⟨y, rfl⟩ := Nat.dvd_of_mod_eq_zero hlow
    have e2 : 2 ^ (j + 1) * y + 2 ^ j = 2 ^ j * (2 * y + 1) := by rw [hps, Nat.mul_comm 2 (2 ^ j), Nat.mul_assoc, ← Nat.mul_succ]
    rw [e2]
    exact Nat.mul_mod_right _ _
  · rw [lts_step, hb, if_pos rfl, lts_hi hhi, eqs_hi hhi]
    omega
  · rw [e, ← List.countP_eq_length_filter]
    omega
theorem NthSt.top {P : List Nat} {k W : Nat} (h : ∀ v ∈ P, v < 2 ^ W) (hk : k < P.length) : NthSt P k 0 k W :=
  ⟨by simp, by rw [lts_top (Nat.pow_pos (by omega))]; rfl, by rw [eqs_top h (Nat.pow_pos (by omega))]; exact hk⟩
theorem NthSt.end {P : List Nat} {k x c : Nat} (h : NthSt P k x c 0) : IsNth P k x := by
  have h1 := h.sum
  have h2 := h.few
  rw [lts_end] at h1
  rw [eqs_end] at h2
  exact ⟨by omega, by rw [countP_le]; omega⟩
theorem nthSt_down {P : List Nat} {k : Nat} (j : Nat) : ∀ x c, NthSt P k x c j → ∃ v, IsNth P k v := by
  induction j with
  | zero => exact fun x c h => ⟨x, h.end⟩
  | succ j ih =>
    intro x c h
    by_cases hc : c < (eqs P x (j + 1)).countP (fun v => !v.testBit j)
    · exact ih _ _ (h.zero hc).1
    · exact ih _ _ (h.one hc).1
theorem isNth_exists {P : List Nat} {k W : Nat} (h : ∀ v ∈ P, v < 2 ^ W) (hk : k < P.length) : ∃ v, IsNth P k v := nthSt_down W _ _ (NthSt.top h hk)

/-- How many of a part lie between two. -/
theorem between {P : List Nat} {lo hi : Nat} (h : lo ≤ hi) : P.countP (fun v => decide (lo ≤ v) && decide (v ≤ hi)) + P.countP (fun v => decide (v < lo)) = P.countP (fun v => decide (v < hi)) + P.count hi := by
  rw [← countP_le]
  induction P with
  | nil => rfl
  | cons x P ih =>
    simp only [List.countP_cons]
    by_cases h1 : lo ≤ x
    · by_cases h2 : x ≤ hi
      · simp [h1, h2, show ¬ x < lo from by omega]; omega
      · simp [h1, h2, show ¬ x < lo from by omega]; omega
    · simp [h1, show x < lo from by omega, show x ≤ hi from by omega]; omega
theorem wide_all {P : List Nat} {v W : Nat} (h : ∀ x ∈ P, x < 2 ^ W) (hv : W < blen v) : P.countP (fun y => decide (y < v)) = P.length ∧ P.count v = 0 := by
  have hv2 : 2 ^ W ≤ v := by
    have := blen_le (v := v) (k := W)
    omega
  refine ⟨List.countP_eq_length.2 (fun x hx => ?_), List.count_eq_zero.2 (fun hx => ?_)⟩
  · have := h x hx
    simp
    omega
  · have := h v hx
    omega
theorem narrow {v W : Nat} (hv : ¬ W < blen v) : v < 2 ^ W := blen_le.1 (by omega)
theorem width_lt {vs : List Nat} {x : Nat} (h : x ∈ vs) : x < 2 ^ widthOf vs := by
  rw [← blen_le]
  unfold widthOf
  suffices ∀ (l : List Nat) (w : Nat), (blen x ≤ w ∨ x ∈ l) → blen x ≤ l.foldl (fun w v => max w (blen v)) w from this vs 0 (Or.inr h)
  intro l
  induction l with
  | nil => intro w hw; simpa using hw
  | cons v l ih =>
    intro w hw
    refine ih _ ?_
    rcases hw with hw | hw
    · exact Or.inl (by show blen x ≤ max w (blen v); omega)
    · rcases List.mem_cons.1 hw with rfl | hw
      · exact Or.inl (by show blen x ≤ max w (blen x); omega)
      · exact Or.inr hw

/-- The stack ahead of the place i, its top first; how many lie under the value there. -/
def stk (vs : List Nat) : Nat → List Nat
  | 0 => []
  | i + 1 => vs[i]?.getD 0 :: pops (vs[i]?.getD 0) (stk vs i)
def und (vs : List Nat) (i : Nat) : Nat := (pops (vs[i]?.getD 0) (stk vs i)).length
theorem stk_len (vs : List Nat) (i : Nat) : (stk vs i).length ≤ i := by
  induction i with
  | zero => simp [stk]
  | succ i ih => have := pops_len (vs[i]?.getD 0) (stk vs i); simp [stk]; omega
theorem und_le (vs : List Nat) (i : Nat) : und vs i ≤ (stk vs i).length := pops_len _ _
theorem brk_split (vs : List Nat) (i : Nat) (hi : i ≤ vs.length) : ∃ pre, brackets vs = pre ++ brk (stk vs i) (vs.drop i) ∧ pre.count true = i ∧ pre.length + (stk vs i).length = 2 * i := by
  induction i with
  | zero => exact ⟨[], by simp [brackets, stk], by simp, by simp [stk]⟩
  | succ i ih =>
    obtain ⟨pre, h1, h2, h3⟩ := ih (by omega)
    have hp := pops_len (vs[i]?.getD 0) (stk vs i)
    have hv : vs[i]?.getD 0 = vs[i] := by simp [show i < vs.length by omega]
    rw [List.drop_eq_getElem_cons (by omega), ← hv] at h1
    refine ⟨pre ++ (List.replicate ((stk vs i).length - (pops (vs[i]?.getD 0) (stk vs i)).length) false ++ [true]), ?_, ?_, ?_⟩
    · rw [h1]
      simp [brk, stk]
    · simp [h2, List.count_replicate]
    · simp [stk]
      omega
/-- Where the one of a place stands. -/
theorem brk_pos (vs : List Nat) (i : Nat) (hi : i < vs.length) : IsPos (brackets vs) true i (2 * i - und vs i) := by
  obtain ⟨pre, h1, h2, h3⟩ := brk_split vs i (by omega)
  have hv : vs[i]?.getD 0 = vs[i] := by simp [hi]
  have hu := und_le vs i
  have hs := stk_len vs i
  have e : pre.length + ((stk vs i).length - und vs i) = 2 * i - und vs i := by omega
  rw [h1, ← e]
  have hp : IsPos (brk (stk vs i) (vs.drop i)) true 0 ((stk vs i).length - und vs i) := by
    rw [List.drop_eq_getElem_cons hi, ← hv, brk]
    refine ⟨?_, ?_⟩
    · rw [List.getElem?_append_right (by simp [und])]
      simp [und]
    · rw [List.take_append_of_le_length (by simp [und])]
      simp [und, List.count_replicate]
  have := hp.app pre
  rw [h2, Nat.add_zero] at this
  exact this
theorem pops_pops {v u : Nat} (h : v ≤ u) (s : List Nat) : pops v (pops u s) = pops v s := by
  induction s with
  | nil => rfl
  | cons t s ih =>
    by_cases hu : u < t
    · simp [pops, hu, show v < t from by omega, ih]
    · simp [pops, hu]
/-- The first of the least of [l, i), for l < i. -/
def leastTo (vs : List Nat) (l : Nat) : Nat → Nat
  | 0 => l
  | d + 1 => if vs[l + 1 + d]?.getD 0 < vs[leastTo vs l d]?.getD 0 then l + 1 + d else leastTo vs l d
theorem leastTo_in (vs : List Nat) (l d : Nat) : l ≤ leastTo vs l d ∧ leastTo vs l d ≤ l + d := by
  induction d with
  | zero => simp [leastTo]
  | succ d ih => unfold leastTo; split <;> omega
theorem leastTo_spec (vs : List Nat) (l d j : Nat) (h1 : l ≤ j) (h2 : j ≤ l + d) : vs[leastTo vs l d]?.getD 0 ≤ vs[j]?.getD 0 ∧ (j < leastTo vs l d → vs[leastTo vs l d]?.getD 0 < vs[j]?.getD 0) := by
  induction d generalizing j with
  | zero =>
    have : j = l := by omega
    subst this
    simp [leastTo]
  | succ d ih =>
    unfold leastTo
    have hin := leastTo_in vs l d
    by_cases hj : j ≤ l + d
    · have hh := ih j h1 hj
      split
      · omega
      · exact hh
    · have hj' : j = l + 1 + d := by omega
      subst hj'
      split
      · omega
      · omega
theorem pops_stk {vs : List Nat} {v i : Nat} (d : Nat) (h : ∀ j, i ≤ j → j < i + d → v < vs[j]?.getD 0) : pops v (stk vs (i + d)) = pops v (stk vs i) := by
  induction d with
  | zero => rfl
  | succ d ih =>
    have hv := h (i + d) (by omega) (by omega)
    rw [← Nat.add_assoc, stk, pops, if_pos hv, pops_pops (by omega), ih (fun j h1 h2 => h j h1 (by omega))]
theorem suf_pops {v t : Nat} {s : List Nat} (h : t ≤ v) (x : List Nat) (hx : ∃ y, x = y ++ t :: s) : ∃ y, pops v x = y ++ t :: s := by
  obtain ⟨y, rfl⟩ := hx
  induction y with
  | nil => exact ⟨[], by simp [pops, show ¬ v < t from by omega]⟩
  | cons u y ih =>
    by_cases hu : v < u
    · obtain ⟨z, hz⟩ := ih
      exact ⟨z, by simp [pops, hu, hz]⟩
    · exact ⟨u :: y, by simp [pops, hu]⟩
/-- One more place: it is lower on the stack just if its value is less. -/
theorem least_step {vs : List Nat} {a i : Nat} (ha : a < i) (hmid : ∀ j, a ≤ j → j < i → vs[a]?.getD 0 ≤ vs[j]?.getD 0) : und vs i ≤ und vs a ↔ vs[i]?.getD 0 < vs[a]?.getD 0 := by
  constructor
  · intro hle
    apply Nat.lt_of_not_le
    intro hge
    have hs : ∀ d, a + 1 + d ≤ i → ∃ y, stk vs (a + 1 + d) = y ++ stk vs (a + 1) := by
      intro d
      induction d with
      | zero => exact fun _ => ⟨[], rfl⟩
      | succ d ih =>
        intro hd
        obtain ⟨y, hy⟩ := ih (by omega)
        have hm := hmid (a + 1 + d) (by omega) (by omega)
        rw [stk] at hy
        obtain ⟨z, hz⟩ := suf_pops hm _ ⟨y, hy⟩
        exact ⟨vs[a + 1 + d]?.getD 0 :: z, by rw [← Nat.add_assoc, stk, hz, stk]; simp⟩
    obtain ⟨y, hy⟩ := hs (i - (a + 1)) (by omega)
    rw [show a + 1 + (i - (a + 1)) = i from by omega, stk] at hy
    obtain ⟨z, hz⟩ := suf_pops hge _ ⟨y, hy⟩
    have : und vs i = z.length + (und vs a + 1) := by unfold und; rw [hz]; simp
    omega
  · intro hlt
    have h1 := pops_stk (vs := vs) (v := vs[i]?.getD 0) (i := a) (i - a) (fun j h1 h2 => by have := hmid j h1 (by omega); omega)
    rw [show a + (i - a) = i from by omega] at h1
    have h2 : und vs i = (pops (vs[i]?.getD 0) (pops (vs[a]?.getD 0) (stk vs a))).length := by unfold und; rw [h1, pops_pops (by omega)]
    rw [h2]
    exact pops_len _ _
end Sp
end Go.Proofs.YtolkjadklbchfaaDoor
/- The plain mathematics of rows of bits in words of 64: how many ones stand ahead, where the k-th stands; the count of ones by halves. -/
namespace Go.Proofs.YtolkjadklbchfaaDoor
namespace Sp

/-- The bits of a word; of words. -/
def bitsN (n x : Nat) : List Bool := (List.range n).map (fun j => x.testBit j)
def bits64 (x : Nat) : List Bool := bitsN 64 x
def bitsOf (ws : List Nat) : List Bool := ws.flatMap bits64
theorem bits64_len (x : Nat) : (bits64 x).length = 64 := by simp [bits64, bitsN]
theorem bits64_at (x j : Nat) (h : j < 64) : (bits64 x)[j]? = some (x.testBit j) := by simp [bits64, bitsN, h]
theorem bitsOf_len (ws : List Nat) : (bitsOf ws).length = 64 * ws.length := by
  induction ws with
  | nil => rfl
  | cons x ws ih =>
    have : bitsOf (x :: ws) = bits64 x ++ bitsOf ws := by simp [bitsOf]
    rw [this, List.length_append, ih, bits64_len, List.length_cons]
    omega
theorem bitsOf_app (a b : List Nat) : bitsOf (a ++ b) = bitsOf a ++ bitsOf b := by simp [bitsOf]
theorem bitsOf_split (ws : List Nat) (i : Nat) (hi : i < ws.length) : bitsOf ws = bitsOf (ws.take i) ++ (bits64 ws[i] ++ bitsOf (ws.drop (i + 1))) := by
  have h : ws = ws.take i ++ (ws[i] :: ws.drop (i + 1)) := by rw [← List.drop_eq_getElem_cons hi, List.take_append_drop]
  have h2 : bitsOf (ws[i] :: ws.drop (i + 1)) = bits64 ws[i] ++ bitsOf (ws.drop (i + 1)) := by unfold bitsOf; rw [List.flatMap_cons]
  rw [← h2, ← bitsOf_app, ← h]
theorem take_len (ws : List Nat) (i : Nat) (hi : i ≤ ws.length) : (bitsOf (ws.take i)).length = 64 * i := by
  rw [bitsOf_len, List.length_take, Nat.min_eq_left hi]
theorem bitsOf_at (ws : List Nat) (i j : Nat) (hj : j < 64) (hi : i < ws.length) : (bitsOf ws)[64 * i + j]? = some (ws[i].testBit j) := by
  rw [bitsOf_split ws i hi, List.getElem?_append_right (by rw [take_len _ _ (by omega)]; omega), take_len _ _ (by omega), show 64 * i + j - 64 * i = j from by omega, List.getElem?_append_left (by rw [bits64_len]; exact hj), bits64_at _ _ hj]
theorem bitsOf_take (ws : List Nat) (i j : Nat) (hj : j ≤ 64) (hi : i < ws.length) : (bitsOf ws).take (64 * i + j) = bitsOf (ws.take i) ++ (bits64 ws[i]).take j := by
  have hl := take_len ws i (by omega)
  rw [bitsOf_split ws i hi, List.take_append, List.take_of_length_le (by omega), hl, show 64 * i + j - 64 * i = j from by omega, List.take_append_of_le_length (by rw [bits64_len]; exact hj)]

/-- How many ones stand ahead of each word. -/
def aheadN (ws : List Nat) (i : Nat) : Nat := (bitsOf (ws.take i)).count true
def aheads (ws : List Nat) : List Nat := (List.range ws.length).map (aheadN ws)
theorem aheads_len (ws : List Nat) : (aheads ws).length = ws.length := by simp [aheads]
theorem aheads_at (ws : List Nat) (i : Nat) (h : i < ws.length) : (aheads ws)[i]? = some (aheadN ws i) := by simp [aheads, h]
theorem aheadN_succ (ws : List Nat) (i : Nat) (hi : i < ws.length) : aheadN ws (i + 1) = aheadN ws i + (bits64 ws[i]).count true := by
  unfold aheadN
  rw [List.take_succ_eq_append_getElem hi, bitsOf_app, List.count_append]
  simp [bitsOf]
theorem aheadN_take (ws : List Nat) (i : Nat) (hi : i ≤ ws.length) : aheadN ws i = ((bitsOf ws).take (64 * i)).count true := by
  by_cases h : i < ws.length
  · rw [show 64 * i = 64 * i + 0 from by omega, bitsOf_take ws i 0 (by omega) h]
    simp [aheadN]
  · have he : i = ws.length := by omega
    subst he
    rw [← bitsOf_len, List.take_length]
    simp [aheadN]
theorem count_ft (l : List Bool) : l.count false + l.count true = l.length := by
  induction l with
  | nil => rfl
  | cons b l ih => cases b <;> simp <;> omega
theorem aheadN_le (ws : List Nat) (i : Nat) (hi : i ≤ ws.length) : aheadN ws i ≤ 64 * i := by
  have h := List.count_le_length (a := true) (l := bitsOf (ws.take i))
  rw [take_len _ _ hi] at h
  exact h
theorem aheadN_mono (ws : List Nat) {i j : Nat} (h : i ≤ j) (hj : j ≤ ws.length) : aheadN ws i ≤ aheadN ws j := by
  rw [aheadN_take ws i (by omega), aheadN_take ws j hj]
  exact count_take_mono _ _ (by omega)
theorem zeroN (ws : List Nat) (i : Nat) (hi : i ≤ ws.length) : ((bitsOf ws).take (64 * i)).count false = 64 * i - aheadN ws i := by
  have h := count_ft ((bitsOf ws).take (64 * i))
  rw [← aheadN_take ws i hi, List.length_take, bitsOf_len, Nat.min_eq_left (by omega)] at h
  omega
theorem zeroN_mono (ws : List Nat) {i j : Nat} (h : i ≤ j) (hj : j ≤ ws.length) : 64 * i - aheadN ws i ≤ 64 * j - aheadN ws j := by
  rw [← zeroN ws i (by omega), ← zeroN ws j hj]
  exact count_take_mono _ _ (by omega)

/-- The bits of a row in words. -/
def wordsTo (l : List Bool) : Nat → List Nat
  | 0 => List.replicate (l.length / 64 + 1) 0
  | k + 1 => if l[k]?.getD false then (wordsTo l k).set (k / 64) (((wordsTo l k)[k / 64]?.getD 0) ||| 2 ^ (k % 64)) else wordsTo l k
def words (l : List Bool) : List Nat := wordsTo l l.length
theorem wordsTo_len (l : List Bool) (k : Nat) : (wordsTo l k).length = l.length / 64 + 1 := by
  induction k with
  | zero => simp [wordsTo]
  | succ k ih => unfold wordsTo; split <;> simp [ih]
theorem words_len (l : List Bool) : (words l).length = l.length / 64 + 1 := wordsTo_len l _
theorem wordsTo_lt (l : List Bool) (k : Nat) : ∀ x ∈ wordsTo l k, x < 18446744073709551616 := by
  induction k with
  | zero =>
    intro x hx
    simp [wordsTo] at hx
    omega
  | succ k ih =>
    unfold wordsTo
    split
    · intro x hx
      rcases List.mem_or_eq_of_mem_set hx with h | h
      · exact ih x h
      · subst h
        have h1 : (wordsTo l k)[k / 64]?.getD 0 < 2 ^ 64 := getD_lt ih (by omega) _
        exact Nat.or_lt_two_pow (n := 64) h1 (Nat.pow_lt_pow_right (by omega) (by omega))
    · exact ih
theorem words_lt (l : List Bool) : ∀ x ∈ words l, x < 18446744073709551616 := wordsTo_lt l _
theorem wordsTo_bit (l : List Bool) (k i j : Nat) (hk : k ≤ l.length) (hj : j < 64) : ((wordsTo l k)[i]?.getD 0).testBit j = (decide (64 * i + j < k) && l[64 * i + j]?.getD false) := by
  induction k with
  | zero =>
    simp [wordsTo, List.getElem?_replicate]
    split <;> simp
  | succ k ih =>
    have ih := ih (by omega)
    have hlen := wordsTo_len l k
    unfold wordsTo
    by_cases hb : l[k]?.getD false = true
    · rw [if_pos hb]
      by_cases hi : k / 64 = i
      · rw [List.getElem?_set, if_pos hi, if_pos (by omega)]
        simp only [Option.getD_some]
        rw [Nat.testBit_or, hi, ih, Nat.testBit_two_pow]
        by_cases he : 64 * i + j = k
        · rw [he, hb]
          simp [show k % 64 = j from by omega]
        · rw [show decide (k % 64 = j) = false from by simp; omega, show decide (64 * i + j < k + 1) = decide (64 * i + j < k) from by rw [decide_eq_decide]; omega]
          simp
      · rw [List.getElem?_set, if_neg hi, ih, show decide (64 * i + j < k + 1) = decide (64 * i + j < k) from by rw [decide_eq_decide]; omega]
    · rw [if_neg hb, ih]
      by_cases he : 64 * i + j = k
      · rw [he]
        simp at hb
        simp [hb]
      · rw [show decide (64 * i + j < k + 1) = decide (64 * i + j < k) from by rw [decide_eq_decide]; omega]
theorem words_bit (l : List Bool) (i j : Nat) (hj : j < 64) : ((words l)[i]?.getD 0).testBit j = l[64 * i + j]?.getD false := by
  unfold words
  rw [wordsTo_bit l _ i j (Nat.le_refl _) hj]
  by_cases h : 64 * i + j < l.length
  · simp [h]
  · simp [h]
/-- All bits of the words: the row, and noughts. -/
theorem bitsOf_words (l : List Bool) : ∃ r, bitsOf (words l) = l ++ List.replicate r false := by
  refine ⟨64 * (l.length / 64 + 1) - l.length, ?_⟩
  apply List.ext_getElem?
  intro p
  have hwl := words_len l
  by_cases hp : p < 64 * (words l).length
  · have hd : p / 64 < (words l).length := by omega
    have h1 := bitsOf_at (words l) (p / 64) (p % 64) (by omega) hd
    have h2 := words_bit l (p / 64) (p % 64) (by omega)
    rw [show 64 * (p / 64) + p % 64 = p from by omega] at h1 h2
    rw [show (words l)[p / 64]?.getD 0 = (words l)[p / 64] from by simp [hd]] at h2
    rw [h1, h2]
    by_cases hpl : p < l.length
    · rw [List.getElem?_append_left hpl]
      simp [hpl]
    · rw [List.getElem?_append_right (by omega), List.getElem?_replicate, if_pos (by omega)]
      simp [hpl]
  · rw [List.getElem?_eq_none (by rw [bitsOf_len]; omega), List.getElem?_eq_none (by simp; omega)]
theorem words_take (l : List Bool) {p : Nat} (hp : p ≤ l.length) : (bitsOf (words l)).take p = l.take p := by
  obtain ⟨r, hr⟩ := bitsOf_words l
  rw [hr, List.take_append_of_le_length hp]
theorem words_pos {l : List Bool} {b : Bool} {k p : Nat} (hk : k < l.count b) (h : IsPos (bitsOf (words l)) b k p) : IsPos l b k p := by
  obtain ⟨r, hr⟩ := bitsOf_words l
  obtain ⟨q, hq⟩ := isPos_exists hk
  have := hq.left (List.replicate r false)
  rw [← hr] at this
  rw [h.uniq this]
  exact hq
theorem words_count (l : List Bool) : (bitsOf (words l)).count true = l.count true := by
  obtain ⟨r, hr⟩ := bitsOf_words l
  rw [hr, List.count_append]
  simp [List.count_replicate]
theorem words_count0 (l : List Bool) : l.count false ≤ (bitsOf (words l)).count false := by
  obtain ⟨r, hr⟩ := bitsOf_words l
  rw [hr, List.count_append]
  omega
/-- The word in which the k-th one, the k-th nought stands. -/
theorem one_in (ws : List Nat) (k i : Nat) (hi : i < ws.length) (h1 : aheadN ws i ≤ k) {p : Nat} (hp : IsPos (bits64 ws[i]) true (k - aheadN ws i) p) : IsPos (bitsOf ws) true k (64 * i + p) := by
  have := (hp.left (bitsOf (ws.drop (i + 1)))).app (bitsOf (ws.take i))
  rw [← bitsOf_split ws i hi, take_len _ _ (by omega)] at this
  rwa [show (bitsOf (ws.take i)).count true + (k - aheadN ws i) = k from by unfold aheadN at h1 ⊢; omega] at this
theorem zero_in (ws : List Nat) (k i : Nat) (hi : i < ws.length) (h1 : 64 * i - aheadN ws i ≤ k) {p : Nat} (hp : IsPos (bits64 ws[i]) false (k - (64 * i - aheadN ws i)) p) : IsPos (bitsOf ws) false k (64 * i + p) := by
  have := (hp.left (bitsOf (ws.drop (i + 1)))).app (bitsOf (ws.take i))
  have hc := count_ft (bitsOf (ws.take i))
  rw [take_len _ _ (by omega)] at hc
  have he : (bitsOf (ws.take i)).count false = 64 * i - aheadN ws i := by unfold aheadN; omega
  rw [← bitsOf_split ws i hi, take_len _ _ (by omega), he] at this
  rwa [show 64 * i - aheadN ws i + (k - (64 * i - aheadN ws i)) = k from by omega] at this
theorem bits64_zero (ws : List Nat) (i : Nat) (hi : i < ws.length) : (bits64 ws[i]).count false = (64 * (i + 1) - aheadN ws (i + 1)) - (64 * i - aheadN ws i) := by
  have h := count_ft (bits64 ws[i])
  rw [bits64_len] at h
  have h2 := aheadN_succ ws i hi
  have h3 := aheadN_le ws i (by omega)
  omega
/-- The other bits of a word. -/
theorem bits64_not {x : Nat} (hx : x < 18446744073709551616) : bits64 (18446744073709551615 - x) = (bits64 x).map (fun b => !b) := by
  unfold bits64 bitsN
  rw [List.map_map]
  apply List.map_congr_left
  intro j hj
  have hj' : j < 64 := List.mem_range.1 hj
  have := Nat.testBit_two_pow_sub_succ (x := x) (n := 64) hx j
  rw [show (2 : Nat) ^ 64 - (x + 1) = 18446744073709551615 - x from by omega] at this
  rw [this]
  simp [hj']
theorem pos_not {l : List Bool} {k p : Nat} (h : IsPos (l.map (fun b => !b)) true k p) : IsPos l false k p := by
  obtain ⟨h1, h2⟩ := h
  rw [List.getElem?_map] at h1
  obtain ⟨b, hb, hb2⟩ := Option.map_eq_some_iff.1 h1
  refine ⟨by rw [hb]; simpa using hb2, ?_⟩
  rw [← List.map_take] at h2
  rw [← h2]
  generalize l.take p = m
  induction m with
  | nil => rfl
  | cons b m ih => cases b <;> simp [ih]

/-- The ones of a word that are left when the lowest k are taken off. -/
structure Off (x k y p : Nat) : Prop where
  le : p ≤ 64
  eq : y = x / 2 ^ p * 2 ^ p
  cnt : ((bits64 x).take p).count true = k
theorem Off.start (x : Nat) : Off x 0 x 0 := ⟨by omega, by simp, by simp⟩
theorem and_pred (c m : Nat) : (2 ^ c * (2 * m + 1)) &&& (2 ^ c * (2 * m + 1) - 1) = 2 ^ c * (2 * m) := by
  have hp : 0 < 2 ^ c := Nat.pow_pos (by omega)
  have e : 2 ^ c * (2 * m + 1) - 1 = 2 ^ c * (2 * m) + (2 ^ c - 1) := by rw [Nat.mul_add]; omega
  rw [e]
  apply Nat.eq_of_testBit_eq
  intro i
  have h1 := Nat.testBit_two_pow_mul_add (2 * m + 1) (i := c) (b := 0) hp i
  have h2 := Nat.testBit_two_pow_mul_add (2 * m) (i := c) (b := 2 ^ c - 1) (by omega) i
  have h3 := Nat.testBit_two_pow_mul_add (2 * m) (i := c) (b := 0) hp i
  rw [Nat.add_zero] at h1 h3
  rw [Nat.testBit_and, h1, h2, h3]
  by_cases hi : i < c
  · simp [hi]
  · simp only [hi, if_false]
    cases hd : i - c with
    | zero => simp [Nat.testBit_zero]
    | succ d => rw [Nat.testBit_succ, Nat.testBit_succ, show (2 * m + 1) / 2 = m from by omega, show 2 * m / 2 = m from by omega]; simp
/-- The lowest one of what is left stands at c. -/
theorem Off.low {x k y p c m : Nat} (h : Off x k y p) (hx : x < 18446744073709551616) (hy : y = 2 ^ c * (2 * m + 1)) : c < 64 ∧ IsPos (bits64 x) true k c ∧ Off x (k + 1) (2 ^ c * (2 * m)) (c + 1) := by
  have hpp : 0 < 2 ^ p := Nat.pow_pos (by omega)
  have hyx : ∀ i, y.testBit i = (decide (p ≤ i) && x.testBit i) := by
    intro i
    rw [h.eq, Nat.testBit_mul_two_pow]
    by_cases hi : p ≤ i
    · simp only [hi, decide_true, Bool.true_and, Nat.testBit_div_two_pow]
      rw [show i - p + p = i from by omega]
    · simp [hi]
  have hyc : ∀ i, y.testBit i = (decide (c ≤ i) && (2 * m + 1).testBit (i - c)) := by
    intro i
    rw [hy, Nat.mul_comm, Nat.testBit_mul_two_pow]
  have hcc : y.testBit c = true := by rw [hyc]; simp
  have hpc : p ≤ c := by
    have := hyx c
    rw [hcc] at this
    simp at this
    exact this.1
  have hxc : x.testBit c = true := by
    have := hyx c
    rw [hcc] at this
    simp at this
    exact this.2
  have hc64 : c < 64 := by
    apply Nat.lt_of_not_le
    intro hge
    have : x < 2 ^ c := Nat.lt_of_lt_of_le hx (Nat.pow_le_pow_right (n := 2) (by omega) hge)
    rw [Nat.testBit_lt_two_pow this] at hxc
    cases hxc
  have hmid : ∀ i, p ≤ i → i < c → x.testBit i = false := by
    intro i h1 h2
    have e1 := hyx i
    have e2 := hyc i
    rw [e1] at e2
    simpa [h1, show ¬ c ≤ i from by omega] using e2
  have hcnt : ((bits64 x).take c).count true = k := by
    rw [take_sl (bits64 x) hpc, List.count_append, h.cnt]
    have : (sl (bits64 x) p c).count true = 0 := by
      rw [List.count_eq_zero]
      intro hmem
      obtain ⟨i, hi⟩ := List.mem_iff_getElem?.1 hmem
      have hlt : i < c - p := by
        have := (List.getElem?_eq_some_iff.1 hi).1
        rw [sl_len _ (by rw [bits64_len]; omega)] at this
        exact this
      rw [sl_at _ (by omega), bits64_at _ _ (by omega), hmid (p + i) (by omega) (by omega)] at hi
      cases hi
    omega
  have hpos : IsPos (bits64 x) true k c := ⟨by rw [bits64_at _ _ hc64, hxc], hcnt⟩
  refine ⟨hc64, hpos, ⟨by omega, ?_, hpos.next⟩⟩
  apply Nat.eq_of_testBit_eq
  intro i
  rw [Nat.testBit_mul_two_pow, Nat.mul_comm, Nat.testBit_mul_two_pow]
  have e1 := hyx i
  have e2 := hyc i
  by_cases hi : c + 1 ≤ i
  · simp only [hi, decide_true, Bool.true_and, Nat.testBit_div_two_pow, show c ≤ i from by omega]
    rw [show i - (c + 1) + (c + 1) = i from by omega]
    rw [e1] at e2
    simp only [show p ≤ i from by omega, show c ≤ i from by omega, decide_true, Bool.true_and] at e2
    rw [e2, show i - c = (i - c - 1) + 1 from by omega, Nat.testBit_succ, Nat.testBit_succ, show (2 * m + 1) / 2 = m from by omega, show 2 * m / 2 = m from by omega]
  · simp only [hi, decide_false, Bool.false_and]
    by_cases hci : c ≤ i
    · have : i = c := by omega
      subst this
      simp
    · simp [hci]
theorem Off.nonzero {x k y p : Nat} (h : Off x k y p) (hk : k < (bits64 x).count true) : y ≠ 0 := by
  intro hy
  have hsplit : (bits64 x) = (bits64 x).take p ++ (bits64 x).drop p := (List.take_append_drop _ _).symm
  have hc : (bits64 x).count true = k + ((bits64 x).drop p).count true := by
    have := congrArg (List.count true) hsplit
    rw [List.count_append, h.cnt] at this
    exact this
  have : ((bits64 x).drop p).count true = 0 := by
    rw [List.count_eq_zero]
    intro hmem
    obtain ⟨i, hi⟩ := List.mem_iff_getElem?.1 hmem
    have hlt : p + i < 64 := by
      have := (List.getElem?_eq_some_iff.1 hi).1
      rw [List.length_drop, bits64_len] at this
      omega
    rw [List.getElem?_drop, bits64_at _ _ hlt] at hi
    have h1 : x.testBit (p + i) = true := Option.some.inj hi
    have h2 : y.testBit (p + i) = true := by
      rw [h.eq, Nat.testBit_mul_two_pow, Nat.testBit_div_two_pow, show p + i - p + p = p + i from by omega, h1]
      simp
    rw [hy] at h2
    simp at h2
  omega
end Sp
end Go.Proofs.YtolkjadklbchfaaDoor
/- The plain mathematics of the count of ones by halves. -/
namespace Go.Proofs.YtolkjadklbchfaaDoor
namespace Sp

theorem and_split (a0 a1 b0 b1 : Nat) (ha : a0 < 256) (hb : b0 < 256) : (a0 + 256 * a1) &&& (b0 + 256 * b1) = (a0 &&& b0) + 256 * (a1 &&& b1) := by
  have hab : a0 &&& b0 < 2 ^ 8 := Nat.and_lt_two_pow a0 (n := 8) hb
  apply Nat.eq_of_testBit_eq
  intro i
  have h1 := Nat.testBit_two_pow_mul_add a1 (i := 8) (b := a0) ha i
  have h2 := Nat.testBit_two_pow_mul_add b1 (i := 8) (b := b0) hb i
  have h3 := Nat.testBit_two_pow_mul_add (a1 &&& b1) (i := 8) (b := a0 &&& b0) hab i
  rw [Nat.add_comm] at h1 h2 h3
  rw [Nat.testBit_and, show (256 : Nat) = 2 ^ 8 from rfl, h1, h2, h3]
  split <;> simp
/-- Digits of 256, the lowest first. -/
def val : List Nat → Nat
  | [] => 0
  | d :: ds => d + 256 * val ds
def rep (m : Nat) : Nat → Nat
  | 0 => 0
  | k + 1 => m + 256 * rep m k
def b1 (d : Nat) : Nat := (d / 2 &&& 85) + (d &&& 85)
def b2 (d : Nat) : Nat := (d / 4 &&& 51) + (d &&& 51)
def b3 (d : Nat) : Nat := (d / 16 + d) &&& 15
theorem t1 : ∀ y : Fin 512, (y.val / 2) % 256 &&& 85 = (y.val % 256) / 2 &&& 85 := by decide +kernel
theorem t2 : ∀ y : Fin 1024, (y.val / 4) % 256 &&& 51 = (y.val % 256) / 4 &&& 51 := by decide +kernel
theorem b1_ok : ∀ y : Fin 256, b1 y.val < 256 ∧ (b1 y.val / 4 &&& 51) + (b1 y.val &&& 51) < 256 ∧ b2 (b1 y.val) / 16 ≤ 4 ∧ b2 (b1 y.val) % 16 ≤ 4 := by decide +kernel
theorem f1 (ds : List Nat) (h : ∀ d ∈ ds, d < 256) : (val ds / 2 &&& rep 85 ds.length) + (val ds &&& rep 85 ds.length) = val (ds.map b1) := by
  induction ds with
  | nil => rfl
  | cons d ds ih =>
    have ih := ih (fun x hx => h x (List.mem_cons_of_mem _ hx))
    have hd : d < 256 := h d (List.mem_cons_self ..)
    simp only [val, List.length_cons, rep, List.map_cons]
    generalize val ds = z at *
    generalize rep 85 ds.length = m at *
    have e : (d + 256 * z) / 2 = (d / 2 + 128 * (z % 2)) + 256 * (z / 2) := by omega
    have q := t1 ⟨d + 256 * (z % 2), by omega⟩
    simp only at q
    rw [show (d + 256 * (z % 2)) / 2 % 256 = d / 2 + 128 * (z % 2) from by omega, show (d + 256 * (z % 2)) % 256 = d from by omega] at q
    rw [e, and_split _ _ _ _ (by omega) (by omega), and_split _ _ _ _ hd (by omega), q, ← ih]
    unfold b1
    omega
theorem f2 (ds : List Nat) (h : ∀ d ∈ ds, d < 256) : (val ds / 4 &&& rep 51 ds.length) + (val ds &&& rep 51 ds.length) = val (ds.map b2) := by
  induction ds with
  | nil => rfl
  | cons d ds ih =>
    have ih := ih (fun x hx => h x (List.mem_cons_of_mem _ hx))
    have hd : d < 256 := h d (List.mem_cons_self ..)
    simp only [val, List.length_cons, rep, List.map_cons]
    generalize val ds = z at *
    generalize rep 51 ds.length = m at *
    have e : (d + 256 * z) / 4 = (d / 4 + 64 * (z % 4)) + 256 * (z / 4) := by omega
    have q := t2 ⟨d + 256 * (z % 4), by omega⟩
    simp only at q
    rw [show (d + 256 * (z % 4)) / 4 % 256 = d / 4 + 64 * (z % 4) from by omega, show (d + 256 * (z % 4)) % 256 = d from by omega] at q
    rw [e, and_split _ _ _ _ (by omega) (by omega), and_split _ _ _ _ hd (by omega), q, ← ih]
    unfold b2
    omega
theorem and15n (x : Nat) : x &&& 15 = x % 16 := Nat.and_two_pow_sub_one_eq_mod x 4
theorem f3 (ds : List Nat) (h : ∀ d ∈ ds, d / 16 ≤ 4 ∧ d % 16 ≤ 4) : (val ds / 16 + val ds) &&& rep 15 ds.length = val (ds.map b3) := by
  induction ds with
  | nil => rfl
  | cons d ds ih =>
    have hh := fun x hx => h x (List.mem_cons_of_mem d hx)
    have ih := ih hh
    have hd := h d (List.mem_cons_self ..)
    have hz : val ds % 16 ≤ 4 := by
      cases ds with
      | nil => simp [val]
      | cons e es =>
        have := hh e (List.mem_cons_self ..)
        simp only [val]
        omega
    simp only [val, List.length_cons, rep, List.map_cons]
    generalize val ds = z at *
    generalize rep 15 ds.length = m at *
    have e : (d + 256 * z) / 16 + (d + 256 * z) = (d / 16 + d + 16 * (z % 16)) + 256 * (z / 16 + z) := by omega
    rw [e, and_split _ _ _ _ (by omega) (by omega), ih]
    unfold b3
    rw [and15n, and15n]
    omega
/-- How many ones. -/
def pop (n x : Nat) : Nat := (bitsN n x).count true
theorem pop8 : ∀ y : Fin 256, b3 (b2 (b1 y.val)) = pop 8 y.val := by decide +kernel
theorem bitsN_add (n d z : Nat) (hd : d < 256) : bitsN (8 + n) (d + 256 * z) = bitsN 8 d ++ bitsN n z := by
  have hb := fun j => Nat.testBit_two_pow_mul_add z (i := 8) (b := d) hd j
  unfold bitsN
  rw [List.range_add, List.map_append, List.map_map]
  congr 1
  · apply List.map_congr_left
    intro j hj
    have := List.mem_range.1 hj
    rw [Nat.add_comm, show (256 : Nat) = 2 ^ 8 from rfl, hb, if_pos this]
  · apply List.map_congr_left
    intro j _
    show (d + 256 * z).testBit (8 + j) = z.testBit j
    rw [Nat.add_comm d, show (256 : Nat) = 2 ^ 8 from rfl, hb, if_neg (by omega), show 8 + j - 8 = j from by omega]
theorem pop_val (ds : List Nat) (h : ∀ d ∈ ds, d < 256) : pop (8 * ds.length) (val ds) = (ds.map (fun d => b3 (b2 (b1 d)))).sum := by
  induction ds with
  | nil => rfl
  | cons d ds ih =>
    have hd : d < 256 := h d (List.mem_cons_self ..)
    have ih := ih (fun x hx => h x (List.mem_cons_of_mem _ hx))
    have q := pop8 ⟨d, hd⟩
    simp only at q
    unfold pop at ih q ⊢
    rw [show 8 * (d :: ds).length = 8 + 8 * ds.length from by simp; omega, val, bitsN_add _ _ _ hd, List.count_append, ih, ← q]
    simp
theorem pop_le (n x : Nat) : pop n x ≤ n := by
  have := List.count_le_length (a := true) (l := bitsN n x)
  simpa [pop, bitsN] using this
theorem r85 : rep 85 8 = 6148914691236517205 := by decide +kernel
theorem r51 : rep 51 8 = 3689348814741910323 := by decide +kernel
theorem r15 : rep 15 8 = 1085102592571150095 := by decide +kernel
theorem dv1 (a R : Nat) (h : a < 256) : (a + 256 * R) / 256 = R := by omega
theorem dv2 (a b R : Nat) (h : a < 256) (h2 : b < 256) : (a + 256 * (b + 256 * R)) / 65536 = R := by omega
theorem dv4 (a b c d R : Nat) (h : a < 256) (h2 : b < 256) (h3 : c < 256) (h4 : d < 256) : (a + 256 * (b + 256 * (c + 256 * (d + 256 * R)))) / 4294967296 = R := by
  rw [show (4294967296 : Nat) = 65536 * 65536 from rfl, ← Nat.div_div_eq_div_mul, dv2 a b _ h h2, dv2 c d _ h3 h4]
/-- The sum of all, by adding what stands above. -/
theorem add_up (c0 c1 c2 c3 c4 c5 c6 c7 x : Nat) (h : c0 ≤ 8 ∧ c1 ≤ 8 ∧ c2 ≤ 8 ∧ c3 ≤ 8 ∧ c4 ≤ 8 ∧ c5 ≤ 8 ∧ c6 ≤ 8 ∧ c7 ≤ 8) (hx : x = c0 + 256 * (c1 + 256 * (c2 + 256 * (c3 + 256 * (c4 + 256 * (c5 + 256 * (c6 + 256 * (c7 + 256 * 0)))))))) :
    x < 651061555542690058 ∧ ((x + x / 256) + (x + x / 256) / 65536 + ((x + x / 256) + (x + x / 256) / 65536) / 4294967296) % 128 = c0 + (c1 + (c2 + (c3 + (c4 + (c5 + (c6 + (c7 + 0))))))) := by
  obtain ⟨h0, h1, h2, h3, h4, h5, h6, h7⟩ := h
  have e1 : x / 256 = c1 + 256 * (c2 + 256 * (c3 + 256 * (c4 + 256 * (c5 + 256 * (c6 + 256 * (c7 + 256 * 0)))))) := by
    rw [hx]
    exact dv1 _ _ (by omega)
  have hlt : x < 651061555542690058 := by omega
  refine ⟨hlt, ?_⟩
  generalize hq : x / 256 = q at *
  clear hq hlt
  obtain ⟨a1, k1⟩ : ∃ a, a = c1 + c2 := ⟨_, rfl⟩
  obtain ⟨a2, k2⟩ : ∃ a, a = c2 + c3 := ⟨_, rfl⟩
  obtain ⟨a3, k3⟩ : ∃ a, a = c3 + c4 := ⟨_, rfl⟩
  obtain ⟨a4, k4⟩ : ∃ a, a = c4 + c5 := ⟨_, rfl⟩
  obtain ⟨a5, k5⟩ : ∃ a, a = c5 + c6 := ⟨_, rfl⟩
  obtain ⟨a6, k6⟩ : ∃ a, a = c6 + c7 := ⟨_, rfl⟩
  obtain ⟨a0, k0⟩ : ∃ a, a = c0 + c1 := ⟨_, rfl⟩
  obtain ⟨y, hy⟩ : ∃ y, y = x + q := ⟨_, rfl⟩
  have hy2 : y = a0 + 256 * (a1 + 256 * (a2 + 256 * (a3 + 256 * (a4 + 256 * (a5 + 256 * (a6 + 256 * c7)))))) := by omega
  rw [← hy]
  clear hy hx e1
  have e2 : y / 65536 = a2 + 256 * (a3 + 256 * (a4 + 256 * (a5 + 256 * (a6 + 256 * c7)))) := by
    rw [hy2]
    exact dv2 _ _ _ (by omega) (by omega)
  generalize hq2 : y / 65536 = q2 at *
  clear hq2
  obtain ⟨z, hz⟩ : ∃ z, z = y + q2 := ⟨_, rfl⟩
  have hz2 : z = (a0 + a2) + 256 * ((a1 + a3) + 256 * ((a2 + a4) + 256 * ((a3 + a5) + 256 * ((a4 + a6) + 256 * (a5 + c7 + 256 * (a6 + 256 * c7)))))) := by omega
  rw [← hz]
  clear hz hy2 e2
  have e3 : z / 4294967296 = (a4 + a6) + 256 * (a5 + c7 + 256 * (a6 + 256 * c7)) := by
    rw [hz2]
    exact dv4 _ _ _ _ _ (by omega) (by omega) (by omega) (by omega)
  generalize hq3 : z / 4294967296 = q3 at *
  clear hq3
  omega
theorem add_list (cs : List Nat) (hlen : cs.length = 8) (h : ∀ c ∈ cs, c ≤ 8) :
    val cs < 651061555542690058 ∧ ((val cs + val cs / 256) + (val cs + val cs / 256) / 65536 + ((val cs + val cs / 256) + (val cs + val cs / 256) / 65536) / 4294967296) % 128 = cs.sum := by
  match cs, hlen with
  | [c0, c1, c2, c3, c4, c5, c6, c7], _ =>
    simp only [List.mem_cons, List.not_mem_nil, or_false, forall_eq_or_imp, forall_eq] at h
    simp only [List.sum_cons, List.sum_nil]
    exact add_up c0 c1 c2 c3 c4 c5 c6 c7 _ h rfl
theorem val_le (M : Nat) (ds : List Nat) (h : ∀ d ∈ ds, d ≤ M) : val ds ≤ M * rep 1 ds.length := by
  induction ds with
  | nil => simp [val]
  | cons d ds ih =>
    have hd := h d (List.mem_cons_self ..)
    have ih := ih (fun x hx => h x (List.mem_cons_of_mem _ hx))
    simp only [val, List.length_cons, rep]
    rw [Nat.mul_add, Nat.mul_one, ← Nat.mul_assoc, Nat.mul_comm M 256, Nat.mul_assoc]
    omega
theorem r1 : rep 1 8 = 72340172838076673 := by decide +kernel
def digs : Nat → Nat → List Nat
  | 0, _ => []
  | k + 1, x => x % 256 :: digs k (x / 256)
theorem digs_len (k x : Nat) : (digs k x).length = k := by
  induction k generalizing x with
  | zero => rfl
  | succ k ih => simp [digs, ih]
theorem digs_lt (k x : Nat) : ∀ d ∈ digs k x, d < 256 := by
  induction k generalizing x with
  | zero => simp [digs]
  | succ k ih =>
    intro d hd
    rcases List.mem_cons.1 hd with rfl | h
    · omega
    · exact ih _ d h
theorem digs_val (k x : Nat) : val (digs k x) = x % 256 ^ k := by
  induction k generalizing x with
  | zero => simp [digs, val, Nat.mod_one]
  | succ k ih => rw [digs, val, ih, Nat.pow_succ, Nat.mul_comm (256 ^ k), Nat.mod_mul]
theorem p8 : 256 ^ 8 = 18446744073709551616 := by decide +kernel
/-- The numbers on the way. -/
theorem pop64 (x : Nat) (hx : x < 18446744073709551616) : ∃ x1 x2 x3, (x / 2 &&& 6148914691236517205) + (x &&& 6148914691236517205) = x1 ∧ x1 < 18446744073709551616 ∧
    (x1 / 4 &&& 3689348814741910323) + (x1 &&& 3689348814741910323) = x2 ∧ x2 < 5000000000000000000 ∧ (x2 / 16 + x2) &&& 1085102592571150095 = x3 ∧ x3 < 651061555542690058 ∧
    ((x3 + x3 / 256) + (x3 + x3 / 256) / 65536 + ((x3 + x3 / 256) + (x3 + x3 / 256) / 65536) / 4294967296) % 128 = pop 64 x := by
  obtain ⟨ds, hds, hlen, hv⟩ : ∃ ds, (∀ d ∈ ds, d < 256) ∧ ds.length = 8 ∧ x = val ds :=
    ⟨digs 8 x, digs_lt 8 x, digs_len 8 x, by rw [digs_val, p8, Nat.mod_eq_of_lt hx]⟩
  have hb := fun d (hd : d ∈ ds) => b1_ok ⟨d, hds d hd⟩
  have hds1 : ∀ d ∈ ds.map b1, d < 256 := by
    intro d hd
    obtain ⟨y, hy, rfl⟩ := List.mem_map.1 hd
    exact (hb y hy).1
  have hds2 : ∀ d ∈ (ds.map b1).map b2, d / 16 ≤ 4 ∧ d % 16 ≤ 4 := by
    intro d hd
    obtain ⟨y, hy, rfl⟩ := List.mem_map.1 hd
    obtain ⟨z, hz, rfl⟩ := List.mem_map.1 hy
    exact (hb z hz).2.2
  have h8 : ∀ d ∈ ((ds.map b1).map b2).map b3, d ≤ 8 := by
    intro d hd
    obtain ⟨y, hy, rfl⟩ := List.mem_map.1 hd
    obtain ⟨z, hz, rfl⟩ := List.mem_map.1 hy
    obtain ⟨u, hu, rfl⟩ := List.mem_map.1 hz
    rw [pop8 ⟨u, hds u hu⟩]
    exact pop_le 8 u
  have l1 : (ds.map b1).length = 8 := by rw [List.length_map, hlen]
  have l2 : ((ds.map b1).map b2).length = 8 := by rw [List.length_map, l1]
  have l3 : (((ds.map b1).map b2).map b3).length = 8 := by rw [List.length_map, l2]
  have e1 := f1 ds hds
  have e2 := f2 (ds.map b1) hds1
  have e3 := f3 ((ds.map b1).map b2) hds2
  have e4 := pop_val ds hds
  have e5 := add_list _ l3 h8
  have v1 := val_le 255 (ds.map b1) (fun d hd => by have := hds1 d hd; omega)
  have v2 := val_le 68 ((ds.map b1).map b2) (fun d hd => by have := hds2 d hd; omega)
  have e6 : (((ds.map b1).map b2).map b3) = ds.map (fun d => b3 (b2 (b1 d))) := by rw [List.map_map, List.map_map]; rfl
  rw [l1, r1] at v1
  rw [l2, r1] at v2
  rw [l2, r15] at e3
  rw [l1, r51] at e2
  rw [hlen, r85, ← hv] at e1
  rw [hlen, ← hv] at e4
  rw [e6] at e5 e3
  refine ⟨_, _, _, e1, ?_, e2, ?_, e3, e5.1, e5.2.trans e4.symm⟩
  · omega
  · omega
theorem pop_bits (x : Nat) : pop 64 x = (bits64 x).count true := rfl
/-- The ones of a word below a place. -/
theorem pop_mod (x j : Nat) (hj : j ≤ 64) : pop 64 (x % 2 ^ j) = ((bits64 x).take j).count true := by
  have e : bits64 (x % 2 ^ j) = (bits64 x).take j ++ List.replicate (64 - j) false := by
    apply List.ext_getElem?
    intro i
    by_cases hi : i < 64
    · rw [bits64_at _ _ hi, Nat.testBit_mod_two_pow]
      by_cases hij : i < j
      · rw [List.getElem?_append_left (by rw [List.length_take, bits64_len]; omega), List.getElem?_take, if_pos hij, bits64_at _ _ hi]
        simp [hij]
      · rw [List.getElem?_append_right (by rw [List.length_take, bits64_len]; omega), List.getElem?_replicate, if_pos (by rw [List.length_take, bits64_len]; omega)]
        simp [hij]
    · rw [List.getElem?_eq_none (by rw [bits64_len]; omega), List.getElem?_eq_none (by rw [List.length_append, List.length_take, bits64_len, List.length_replicate]; omega)]
  rw [pop_bits, e, List.count_append]
  simp [List.count_replicate]
end Sp
end Go.Proofs.YtolkjadklbchfaaDoor
/- The plain mathematics of the marks: where their ones stand, their low bits, the nearest of them. -/
namespace Go.Proofs.YtolkjadklbchfaaDoor
namespace Sp

/-- Marks that rise. -/
def Rises (ms : List Nat) : Prop := ∀ i j, i < j → j < ms.length → ms[i]?.getD 0 < ms[j]?.getD 0
/-- The place of the one of the mark i among the high bits. -/
def hiAt (q : Nat) (ms : List Nat) (i : Nat) : Nat := ms[i]?.getD 0 / 2 ^ q + i
theorem hiAt_lt {q : Nat} {ms : List Nat} (h : Rises ms) {i j : Nat} (hij : i < j) (hj : j < ms.length) : hiAt q ms i < hiAt q ms j := by
  have := Nat.div_le_div_right (c := 2 ^ q) (Nat.le_of_lt (h i j hij hj))
  unfold hiAt
  omega
theorem hiAt_in {n q : Nat} {ms : List Nat} (hm : ∀ x ∈ ms, x < n) {i : Nat} (hi : i < ms.length) : hiAt q ms i < ms.length + n / 2 ^ q + 1 := by
  have h1 : ms[i]?.getD 0 < n := by
    have := hm _ (List.getElem_mem hi)
    simpa [hi] using this
  have := Nat.div_le_div_right (c := 2 ^ q) (Nat.le_of_lt h1)
  unfold hiAt
  omega
theorem take_set_gt {α : Type} (l : List α) (p q : Nat) (x : α) (h : q ≤ p) : (l.set p x).take q = l.take q := by
  rw [List.take_set, List.set_eq_of_length_le (by simp; omega)]
theorem count_set_true (l : List Bool) (p : Nat) (h : l[p]? = some false) : (l.set p true).count true = l.count true + 1 := by
  induction l generalizing p with
  | nil => simp at h
  | cons b l ih =>
    cases p with
    | zero =>
      have hb : b = false := by simpa using h
      subst hb
      simp
    | succ p =>
      rw [List.set_cons_succ, List.count_cons, ih p (by simpa using h), List.count_cons]
      omega
/-- Behind i marks: their ones, and none behind the last of them. -/
structure HiSt (n q : Nat) (ms : List Nat) (i : Nat) : Prop where
  pos : ∀ j, j < i → IsPos (highTo n q ms i) true j (hiAt q ms j)
  cnt : (highTo n q ms i).count true = i
  off : ∀ p, (∀ j, j < i → hiAt q ms j < p) → p < ms.length + n / 2 ^ q + 1 → (highTo n q ms i)[p]? = some false
theorem hiSt (n q : Nat) (ms : List Nat) (hr : Rises ms) (hm : ∀ x ∈ ms, x < n) (i : Nat) (hi : i ≤ ms.length) : HiSt n q ms i := by
  induction i with
  | zero =>
    refine ⟨fun j hj => by omega, by simp [highTo, List.count_replicate], ?_⟩
    intro p _ hp
    simp [highTo, hp]
  | succ i ih =>
    have h := ih (by omega)
    have hin := hiAt_in (q := q) hm (show i < ms.length by omega)
    have hoff := h.off (hiAt q ms i) (fun j hj => hiAt_lt hr hj (by omega)) hin
    have hlen := highTo_len n q ms i
    have hall : ((highTo n q ms i).take (hiAt q ms i)).count true = i := by
      by_cases h0 : i = 0
      · subst h0
        simp [highTo, List.count_replicate]
      · have hp := h.pos (i - 1) (by omega)
        have h1 := hp.next
        have h2 := count_take_mono (highTo n q ms i) true (show hiAt q ms (i - 1) + 1 ≤ hiAt q ms i from hiAt_lt hr (by omega) (by omega))
        have h3 := count_take_mono (highTo n q ms i) true (show hiAt q ms i ≤ (highTo n q ms i).length by omega)
        rw [List.take_length, h.cnt] at h3
        omega
    have e : highTo n q ms (i + 1) = (highTo n q ms i).set (hiAt q ms i) true := rfl
    refine ⟨?_, ?_, ?_⟩
    · intro j hj
      rw [e]
      by_cases hji : j = i
      · subst hji
        refine ⟨?_, ?_⟩
        · rw [List.getElem?_set, if_pos rfl, if_pos (by omega)]
        · rw [take_set_gt _ _ _ _ (Nat.le_refl _), hall]
      · have hlt := hiAt_lt (q := q) hr (show j < i by omega) (by omega)
        have hp := h.pos j (by omega)
        refine ⟨?_, ?_⟩
        · rw [List.getElem?_set, if_neg (by omega)]
          exact hp.1
        · rw [take_set_gt _ _ _ _ (by omega)]
          exact hp.2
    · rw [e, count_set_true _ _ hoff, h.cnt]
    · intro p hp hpl
      rw [e, List.getElem?_set, if_neg (by have := hp i (by omega); omega)]
      exact h.off p (fun j hj => hp j (by omega)) hpl
theorem high_pos (n q : Nat) (ms : List Nat) (hr : Rises ms) (hm : ∀ x ∈ ms, x < n) (i : Nat) (hi : i < ms.length) : IsPos (high n q ms) true i (ms[i] / 2 ^ q + i) := by
  have := (hiSt n q ms hr hm ms.length (Nat.le_refl _)).pos i hi
  unfold hiAt at this
  simpa [hi, high] using this
theorem high_count (n q : Nat) (ms : List Nat) (hr : Rises ms) (hm : ∀ x ∈ ms, x < n) : (high n q ms).count true = ms.length := (hiSt n q ms hr hm ms.length (Nat.le_refl _)).cnt

theorem low_at (p q b : Nat) (hb : b < q) : (low p q)[b]? = some (p.testBit b) := by
  induction q generalizing p b with
  | zero => omega
  | succ q ih =>
    cases b with
    | zero => simp [low, Nat.testBit_zero]; rfl
    | succ b => rw [low, List.getElem?_cons_succ, ih _ _ (by omega), Nat.testBit_succ]
theorem lows_at (q : Nat) (ms : List Nat) (i b : Nat) (hi : i < ms.length) (hb : b < q) : (lows q ms)[i * q + b]? = some (ms[i].testBit b) := by
  induction ms generalizing i with
  | nil => simp at hi
  | cons p l ih =>
    have e : lows q (p :: l) = low p q ++ lows q l := by unfold lows; rw [List.flatMap_cons]
    rw [e]
    cases i with
    | zero => rw [List.getElem?_append_left (by rw [low_len]; omega), Nat.zero_mul, Nat.zero_add, low_at _ _ _ hb]; rfl
    | succ i =>
      rw [List.getElem?_append_right (by rw [low_len, Nat.succ_mul]; omega), low_len, show (i + 1) * q + b - q = i * q + b from by rw [Nat.succ_mul]; omega, ih i (by simpa using hi)]
      rfl
theorem marks_low (n : Nat) (ms : List Nat) (i b : Nat) (hi : i < ms.length) (hb : b < pow n ms.length) : (marks n ms)[i * pow n ms.length + b]? = some (ms[i].testBit b) := by
  unfold marks
  rw [List.getElem?_append_left, lows_at _ _ _ _ hi hb]
  rw [lows_len]
  have h1 : i * pow n ms.length + pow n ms.length ≤ ms.length * pow n ms.length := by
    rw [← Nat.succ_mul]
    exact Nat.mul_le_mul_right _ hi
  omega
/-- The one of the mark i stands behind all low bits. -/
theorem marks_pos (n : Nat) (ms : List Nat) (hr : Rises ms) (hm : ∀ x ∈ ms, x < n) (i : Nat) (hi : i < ms.length) :
    IsPos (marks n ms) true (((marks n ms).take (ms.length * pow n ms.length)).count true + i) (ms.length * pow n ms.length + (ms[i] / 2 ^ pow n ms.length + i)) := by
  have h := (high_pos n (pow n ms.length) ms hr hm i hi).app (lows (pow n ms.length) ms)
  have e : (marks n ms).take (ms.length * pow n ms.length) = lows (pow n ms.length) ms := by
    unfold marks
    rw [← lows_len, List.take_left]
  rw [e, ← lows_len]
  exact h
theorem marks_one_lt (n : Nat) (ms : List Nat) (hr : Rises ms) (hm : ∀ x ∈ ms, x < n) (i : Nat) (hi : i < ms.length) : ((marks n ms).take (ms.length * pow n ms.length)).count true + i < (marks n ms).count true := by
  have h := (marks_pos n ms hr hm i hi)
  have h1 := h.next
  have h2 := count_take_mono (marks n ms) true (show _ + 1 ≤ (marks n ms).length from h.lt)
  rw [List.take_length] at h2
  omega
/-- A number out of its high part and its low bits. -/
theorem lowbits_step (x q b : Nat) (hb : b < q) : (x / 2 ^ q * 2 ^ q + x % 2 ^ b) ||| (if x.testBit b then 2 ^ b else 0) = x / 2 ^ q * 2 ^ q + x % 2 ^ (b + 1) := by
  have hp : 0 < 2 ^ b := Nat.pow_pos (by omega)
  have hpq : 2 ^ (b + 1) ≤ 2 ^ q := Nat.pow_le_pow_right (by omega) hb
  have hps : 2 ^ (b + 1) = 2 ^ b * 2 := Nat.pow_succ ..
  have hm1 : x % 2 ^ b < 2 ^ b := Nat.mod_lt _ hp
  have hm2 : x % 2 ^ (b + 1) < 2 ^ (b + 1) := Nat.mod_lt _ (by omega)
  apply Nat.eq_of_testBit_eq
  intro i
  have h1 := Nat.testBit_two_pow_mul_add (x / 2 ^ q) (i := q) (b := x % 2 ^ b) (by omega) i
  have h2 := Nat.testBit_two_pow_mul_add (x / 2 ^ q) (i := q) (b := x % 2 ^ (b + 1)) (by omega) i
  rw [Nat.mul_comm] at h1 h2
  rw [Nat.testBit_or, h1, h2]
  by_cases hi : i < q
  · simp only [hi, if_true, Nat.testBit_mod_two_pow]
    by_cases hib : i = b
    · subst hib
      cases x.testBit i <;> simp [Nat.testBit_two_pow_self]
    · have hne : (if x.testBit b = true then 2 ^ b else 0).testBit i = false := by
        split
        · rw [Nat.testBit_two_pow]; simp; omega
        · simp
      rw [hne, show decide (i < b + 1) = decide (i < b) from by rw [decide_eq_decide]; omega]
      simp
  · simp only [hi, if_false]
    have hne : (if x.testBit b = true then 2 ^ b else 0).testBit i = false := by
      split
      · rw [Nat.testBit_two_pow]; simp; omega
      · simp
    rw [hne]
    simp
theorem lowbits_all (x q : Nat) : x / 2 ^ q * 2 ^ q + x % 2 ^ q = x := by
  rw [Nat.mul_comm]
  exact Nat.div_add_mod x (2 ^ q)
end Sp
end Go.Proofs.YtolkjadklbchfaaDoor
/- The document's answers to the questions, as relations; each has one answer. -/
namespace Go.Proofs.YtolkjadklbchfaaDoor
namespace Sp
def AccRes (vs : List Nat) (i a e : Int) : Prop := ((i < 0 ∨ (vs.length : Int) ≤ i) ∧ a = 0 ∧ e = 3) ∨ (∃ x : Nat, 0 ≤ i ∧ vs[i.toNat]? = some x ∧ a = (x : Int) ∧ e = 0)
def RankRes (vs : List Nat) (v : Nat) (i a e : Int) : Prop := ((i < 0 ∨ (vs.length : Int) < i) ∧ a = 0 ∧ e = 3) ∨ (0 ≤ i ∧ i ≤ vs.length ∧ a = ((vs.take i.toNat).count v : Nat) ∧ e = 0)
def SelRes (vs : List Nat) (v : Nat) (k a e : Int) : Prop := (k < 0 ∧ a = 0 ∧ e = 4) ∨ (0 ≤ k ∧ vs.count v ≤ k.toNat ∧ a = 0 ∧ e = 5) ∨ (∃ p : Nat, 0 ≤ k ∧ At vs v k.toNat p ∧ a = (p : Int) ∧ e = 0)
def IsPart (vs : List Nat) (l r : Int) : Prop := 0 ≤ l ∧ r ≤ vs.length ∧ l < r
def LeastRes (vs : List Nat) (l r a e : Int) : Prop := (¬ IsPart vs l r ∧ a = 0 ∧ e = 3) ∨ (IsPart vs l r ∧ a = (leastTo vs l.toNat (r.toNat - 1 - l.toNat) : Nat) ∧ e = 0)
def NthRes (vs : List Nat) (l r k a e : Int) : Prop := (¬ IsPart vs l r ∧ a = 0 ∧ e = 3) ∨ (IsPart vs l r ∧ ¬ (0 ≤ k ∧ k < r - l) ∧ a = 0 ∧ e = 4) ∨ (∃ v : Nat, IsPart vs l r ∧ (0 ≤ k ∧ k < r - l) ∧ IsNth (sl vs l.toNat r.toNat) k.toNat v ∧ a = (v : Int) ∧ e = 0)
def CountRes (vs : List Nat) (l r : Int) (lo hi : Nat) (a e : Int) : Prop := (¬ IsPart vs l r ∧ a = 0 ∧ e = 3) ∨ (IsPart vs l r ∧ hi < lo ∧ a = 0 ∧ e = 4) ∨ (IsPart vs l r ∧ lo ≤ hi ∧ a = ((sl vs l.toNat r.toNat).countP (fun v => decide (lo ≤ v) && decide (v ≤ hi)) : Nat) ∧ e = 0)
def BeforeRes (ms : List Nat) (p a e : Int) : Prop := ((∀ x ∈ ms, p < (x : Int)) ∧ a = 0 ∧ e = 5) ∨ ∃ x ∈ ms, (x : Int) ≤ p ∧ (∀ y ∈ ms, (y : Int) ≤ p → y ≤ x) ∧ a = (x : Int) ∧ e = 0
def AfterRes (ms : List Nat) (p a e : Int) : Prop := ((∀ x ∈ ms, (x : Int) < p) ∧ a = 0 ∧ e = 5) ∨ ∃ x ∈ ms, p ≤ (x : Int) ∧ (∀ y ∈ ms, p ≤ (y : Int) → x ≤ y) ∧ a = (x : Int) ∧ e = 0

theorem AccRes.uniq {vs : List Nat} {i a e b f : Int} (h : AccRes vs i a e) (g : AccRes vs i b f) : a = b ∧ e = f := by
  rcases h with ⟨h1, rfl, rfl⟩ | ⟨x, h1, h2, rfl, rfl⟩ <;> rcases g with ⟨g1, rfl, rfl⟩ | ⟨y, g1, g2, rfl, rfl⟩
  · exact ⟨rfl, rfl⟩
  · have := (List.getElem?_eq_some_iff.1 g2).1; omega
  · have := (List.getElem?_eq_some_iff.1 h2).1; omega
  · rw [h2] at g2
    exact ⟨by rw [Option.some.inj g2], rfl⟩
theorem RankRes.uniq {vs : List Nat} {v : Nat} {i a e b f : Int} (h : RankRes vs v i a e) (g : RankRes vs v i b f) : a = b ∧ e = f := by
  rcases h with ⟨h1, rfl, rfl⟩ | ⟨h1, h2, rfl, rfl⟩ <;> rcases g with ⟨g1, rfl, rfl⟩ | ⟨g1, g2, rfl, rfl⟩
  · exact ⟨rfl, rfl⟩
  · omega
  · omega
  · exact ⟨rfl, rfl⟩
theorem SelRes.uniq {vs : List Nat} {v : Nat} {k a e b f : Int} (h : SelRes vs v k a e) (g : SelRes vs v k b f) : a = b ∧ e = f := by
  rcases h with ⟨h1, rfl, rfl⟩ | ⟨h1, h2, rfl, rfl⟩ | ⟨p, h1, h2, rfl, rfl⟩ <;> rcases g with ⟨g1, rfl, rfl⟩ | ⟨g1, g2, rfl, rfl⟩ | ⟨q, g1, g2, rfl, rfl⟩
  · exact ⟨rfl, rfl⟩
  · omega
  · omega
  · omega
  · exact ⟨rfl, rfl⟩
  · have := g2.few; omega
  · omega
  · have := h2.few; omega
  · exact ⟨by rw [h2.uniq g2], rfl⟩
theorem LeastRes.uniq {vs : List Nat} {l r a e b f : Int} (h : LeastRes vs l r a e) (g : LeastRes vs l r b f) : a = b ∧ e = f := by
  rcases h with ⟨h1, rfl, rfl⟩ | ⟨h1, rfl, rfl⟩ <;> rcases g with ⟨g1, rfl, rfl⟩ | ⟨g1, rfl, rfl⟩
  · exact ⟨rfl, rfl⟩
  · exact absurd g1 h1
  · exact absurd h1 g1
  · exact ⟨rfl, rfl⟩
theorem NthRes.uniq {vs : List Nat} {l r k a e b f : Int} (h : NthRes vs l r k a e) (g : NthRes vs l r k b f) : a = b ∧ e = f := by
  rcases h with ⟨h1, rfl, rfl⟩ | ⟨h1, h2, rfl, rfl⟩ | ⟨v, h1, h2, h3, rfl, rfl⟩ <;> rcases g with ⟨g1, rfl, rfl⟩ | ⟨g1, g2, rfl, rfl⟩ | ⟨u, g1, g2, g3, rfl, rfl⟩
  · exact ⟨rfl, rfl⟩
  · exact absurd g1 h1
  · exact absurd g1 h1
  · exact absurd h1 g1
  · exact ⟨rfl, rfl⟩
  · exact absurd g2 h2
  · exact absurd h1 g1
  · exact absurd h2 g2
  · exact ⟨by rw [h3.uniq g3], rfl⟩
theorem CountRes.uniq {vs : List Nat} {l r : Int} {lo hi : Nat} {a e b f : Int} (h : CountRes vs l r lo hi a e) (g : CountRes vs l r lo hi b f) : a = b ∧ e = f := by
  rcases h with ⟨h1, rfl, rfl⟩ | ⟨h1, h2, rfl, rfl⟩ | ⟨h1, h2, rfl, rfl⟩ <;> rcases g with ⟨g1, rfl, rfl⟩ | ⟨g1, g2, rfl, rfl⟩ | ⟨g1, g2, rfl, rfl⟩
  · exact ⟨rfl, rfl⟩
  · exact absurd g1 h1
  · exact absurd g1 h1
  · exact absurd h1 g1
  · exact ⟨rfl, rfl⟩
  · omega
  · exact absurd h1 g1
  · omega
  · exact ⟨rfl, rfl⟩
theorem BeforeRes.uniq {ms : List Nat} {p a e b f : Int} (h : BeforeRes ms p a e) (g : BeforeRes ms p b f) : a = b ∧ e = f := by
  rcases h with ⟨h1, rfl, rfl⟩ | ⟨x, hx, h1, h2, rfl, rfl⟩ <;> rcases g with ⟨g1, rfl, rfl⟩ | ⟨y, hy, g1, g2, rfl, rfl⟩
  · exact ⟨rfl, rfl⟩
  · have := h1 y hy; omega
  · have := g1 x hx; omega
  · have a1 := h2 y hy g1
    have a2 := g2 x hx h1
    exact ⟨by omega, rfl⟩
theorem AfterRes.uniq {ms : List Nat} {p a e b f : Int} (h : AfterRes ms p a e) (g : AfterRes ms p b f) : a = b ∧ e = f := by
  rcases h with ⟨h1, rfl, rfl⟩ | ⟨x, hx, h1, h2, rfl, rfl⟩ <;> rcases g with ⟨g1, rfl, rfl⟩ | ⟨y, hy, g1, g2, rfl, rfl⟩
  · exact ⟨rfl, rfl⟩
  · have := h1 y hy; omega
  · have := g1 x hx; omega
  · have a1 := h2 y hy g1
    have a2 := g2 x hx h1
    exact ⟨by omega, rfl⟩
theorem IsPart.nat {vs : List Nat} {l r : Int} (h : IsPart vs l r) : ∃ i j : Nat, l = (i : Int) ∧ r = (j : Int) ∧ i < j ∧ j ≤ vs.length := by
  obtain ⟨h1, h2, h3⟩ := h
  exact ⟨l.toNat, r.toNat, by omega, by omega, by omega, by omega⟩
end Sp
end Go.Proofs.YtolkjadklbchfaaDoor
