import Derived.Test.YtolkjadklbchfaaDoorM1
import Derived.Test.YtolkjadklbchfaaDoorQ4
import Derived.Laws.BytesArg
/- Load: mathematics of the bytes: what is read out of them. -/
namespace Go.Proofs.YtolkjadklbchfaaDoor
namespace Sp

/-- The first n bits of bytes. -/
def rd (bs : List Nat) (n : Nat) : List Bool := (List.range n).map (bitOf bs)
theorem rd_len (bs : List Nat) (n : Nat) : (rd bs n).length = n := by simp [rd]
theorem rd_at (bs : List Nat) (n k : Nat) (h : k < n) : (rd bs n)[k]? = some (bitOf bs k) := by simp [rd, h]

/-- Layers of numbers that have the same lower bits. -/
theorem part_map (f : Nat → Nat) (xs : List Nat) (k : Nat) (h : ∀ x, (f x).testBit k = x.testBit k) : part (xs.map f) k = (part xs k).map f := by
  unfold part
  rw [List.filter_map, List.filter_map, List.map_append]
  congr 1
  · congr 1
    apply List.filter_congr
    intro x _
    simp [h]
  · congr 1
    apply List.filter_congr
    intro x _
    simp [h]
theorem lay_map (f : Nat → Nat) (k : Nat) (h : ∀ x j, j < k → (f x).testBit j = x.testBit j) (xs : List Nat) : lay (xs.map f) k = lay xs k := by
  induction k generalizing xs with
  | zero => rfl
  | succ k ih =>
    simp only [lay]
    rw [part_map f xs k (fun x => h x k (by omega)), ih (fun x j hj => h x j (by omega))]
    congr 1
    rw [List.map_map]
    apply List.map_congr_left
    intro x _
    exact h x k (by omega)
theorem lay_mod (k : Nat) (xs : List Nat) : lay (xs.map (· % 2 ^ k)) k = lay xs k :=
  lay_map _ k (fun x j hj => by simp [Nat.testBit_mod_two_pow, hj]) xs

/-- Two rows put together by bits. -/
def merge : List Bool → List Nat → List Nat → List Nat
  | [], _, _ => []
  | false :: b, zs, os => zs.headD 0 :: merge b zs.tail os
  | true :: b, zs, os => os.headD 0 :: merge b zs os.tail
theorem merge_len (b : List Bool) (zs os : List Nat) : (merge b zs os).length = b.length := by
  induction b generalizing zs os with
  | nil => rfl
  | cons x b ih => cases x <;> simp [merge, ih]
theorem merge_filter {k : Nat} (b : List Bool) (zs os : List Nat) (hz : zs.length = b.count false) (ho : os.length = b.count true) (h0 : ∀ x ∈ zs, x.testBit k = false) (h1 : ∀ x ∈ os, x.testBit k = true) :
    (merge b zs os).map (fun v => v.testBit k) = b ∧ part (merge b zs os) k = zs ++ os ∧ (∀ x ∈ merge b zs os, x ∈ zs ∨ x ∈ os) := by
  suffices h : (merge b zs os).map (fun v => v.testBit k) = b ∧ (merge b zs os).filter (fun v => !v.testBit k) = zs ∧ (merge b zs os).filter (fun v => v.testBit k) = os ∧ (∀ x ∈ merge b zs os, x ∈ zs ∨ x ∈ os) from
    ⟨h.1, by unfold part; rw [h.2.1, h.2.2.1], h.2.2.2⟩
  induction b generalizing zs os with
  | nil =>
    simp at hz ho
    subst hz
    subst ho
    simp [merge]
  | cons x b ih =>
    cases x with
    | false =>
      match zs, hz, h0 with
      | [], hz, _ => simp at hz
      | z :: zs, hz, h0 =>
        simp at hz
        have := ih zs os (by omega) (by simpa using ho) (fun y hy => h0 y (List.mem_cons_of_mem _ hy)) h1
        have hzb := h0 z (List.mem_cons_self ..)
        refine ⟨by simp [merge, hzb, this.1], by simp [merge, hzb, this.2.1], by simp [merge, hzb, this.2.2.1], ?_⟩
        intro y hy
        simp [merge] at hy
        rcases hy with rfl | hy
        · simp
        · rcases this.2.2.2 y hy with h | h
          · simp [h]
          · simp [h]
    | true =>
      match os, ho, h1 with
      | [], ho, _ => simp at ho
      | z :: os, ho, h1 =>
        simp at ho
        have := ih zs os (by simpa using hz) (by omega) h0 (fun y hy => h1 y (List.mem_cons_of_mem _ hy))
        have hzb := h1 z (List.mem_cons_self ..)
        refine ⟨by simp [merge, hzb, this.1], by simp [merge, hzb, this.2.1], by simp [merge, hzb, this.2.2.1], ?_⟩
        intro y hy
        simp [merge] at hy
        rcases hy with rfl | hy
        · simp
        · rcases this.2.2.2 y hy with h | h
          · simp [h]
          · simp [h]

theorem count_sum (b : List Bool) : b.count false + b.count true = b.length := by
  induction b with
  | nil => rfl
  | cons x b ih => cases x <;> simp <;> omega

/-- Any bits are the layers of some numbers. -/
theorem lay_surj (k n : Nat) (B : List Bool) (hB : B.length = k * n) : ∃ us : List Nat, us.length = n ∧ (∀ x ∈ us, x < 2 ^ k) ∧ lay us k = B := by
  induction k generalizing B with
  | zero =>
    refine ⟨List.replicate n 0, by simp, ?_, ?_⟩
    · intro x hx
      simp at hx
      simp [hx.2]
    · simp at hB
      simp [lay, hB]
  | succ k ih =>
    rw [Nat.succ_mul] at hB
    obtain ⟨us, hl, hlt, he⟩ := ih (B.drop n) (by simp; omega)
    have hbl : (B.take n).length = n := by simp; omega
    have hcs := count_sum (B.take n)
    obtain ⟨h1, h2, h3⟩ := merge_filter (k := k) (B.take n) (us.take ((B.take n).count false)) ((us.drop ((B.take n).count false)).map (· + 2 ^ k))
      (by simp; omega) (by simp; omega)
      (fun x hx => Nat.testBit_lt_two_pow (hlt x (List.mem_of_mem_take hx)))
      (fun x hx => by
        obtain ⟨y, hy, rfl⟩ := List.mem_map.1 hx
        have := hlt y (List.mem_of_mem_drop hy)
        rw [Nat.add_comm, Nat.testBit_two_pow_add_eq]
        simp [Nat.testBit_lt_two_pow this])
    refine ⟨merge (B.take n) (us.take ((B.take n).count false)) ((us.drop ((B.take n).count false)).map (· + 2 ^ k)), by rw [merge_len, hbl], ?_, ?_⟩
    · intro x hx
      rw [Nat.pow_succ]
      rcases h3 x hx with h | h
      · have := hlt x (List.mem_of_mem_take h)
        omega
      · obtain ⟨y, hy, rfl⟩ := List.mem_map.1 h
        have := hlt y (List.mem_of_mem_drop hy)
        omega
    · simp only [lay]
      rw [h1, h2]
      have : lay (us.take ((B.take n).count false) ++ (us.drop ((B.take n).count false)).map (· + 2 ^ k)) k = lay us k := by
        rw [← lay_mod k, ← lay_mod k us]
        congr 1
        rw [List.map_append, List.map_map]
        conv => rhs; rw [← List.take_append_drop ((B.take n).count false) us, List.map_append]
        congr 1
        apply List.map_congr_left
        intro x _
        simp
      rw [this, he, List.take_append_drop]

/-- Rows that are alike in parts. -/
theorem merge_inj {f : Nat → Nat} {b : Nat → Bool} (vs us : List Nat) (h : vs.map b = us.map b) (h0 : (vs.filter (fun v => !b v)).map f = (us.filter (fun v => !b v)).map f) (h1 : (vs.filter b).map f = (us.filter b).map f) : vs.map f = us.map f := by
  induction vs generalizing us with
  | nil =>
    have : us = [] := by
      have := congrArg List.length h
      simpa using this.symm
    simp [this]
  | cons v vs ih =>
    match us, h, h0, h1 with
    | u :: us, h, h0, h1 =>
      simp only [List.map_cons, List.cons.injEq] at h
      cases hb : b v with
      | false =>
        have hu : b u = false := by rw [← h.1, hb]
        simp [hb, hu] at h0 h1
        rw [List.map_cons, List.map_cons, h0.1, ih us h.2 (by simpa using h0.2) (by simpa using h1)]
      | true =>
        have hu : b u = true := by rw [← h.1, hb]
        simp [hb, hu] at h0 h1
        rw [List.map_cons, List.map_cons, h1.1, ih us h.2 (by simpa using h0) (by simpa using h1.2)]
theorem lay_inj_mod (k : Nat) (vs us : List Nat) (hl : vs.length = us.length) (h : lay vs k = lay us k) : vs.map (· % 2 ^ k) = us.map (· % 2 ^ k) := by
  induction k generalizing vs us with
  | zero =>
    apply List.ext_getElem?
    intro j
    by_cases hj : j < vs.length
    · simp [hj, show j < us.length from by omega, Nat.mod_one]
    · simp [hj, show ¬ j < us.length from by omega]
  | succ k ih =>
    simp only [lay] at h
    obtain ⟨h1, h2⟩ := List.append_inj h (by simp [hl])
    have h3 := ih _ _ (by rw [part_len, part_len, hl]) h2
    unfold part at h3
    rw [List.map_append, List.map_append] at h3
    have hc : (vs.filter (fun v => !v.testBit k)).length = (us.filter (fun v => !v.testBit k)).length := by
      rw [← List.countP_eq_length_filter, ← List.countP_eq_length_filter]
      have a1 : vs.countP (fun v => !v.testBit k) = (vs.map (fun v => v.testBit k)).count false := by rw [List.count_eq_countP, List.countP_map]; congr 1; funext x; simp
      have a2 : us.countP (fun v => !v.testBit k) = (us.map (fun v => v.testBit k)).count false := by rw [List.count_eq_countP, List.countP_map]; congr 1; funext x; simp
      rw [a1, a2, h1]
    obtain ⟨h4, h5⟩ := List.append_inj h3 (by simp [hc])
    have h6 := merge_inj (f := (· % 2 ^ k)) vs us h1 h4 h5
    apply List.ext_getElem?
    intro j
    have e1 := congrArg (·[j]?) h1
    have e2 := congrArg (·[j]?) h6
    by_cases hj : j < vs.length
    · have hj2 : j < us.length := by omega
      simp [hj, hj2] at e1 e2 ⊢
      rw [Nat.mod_pow_succ, Nat.mod_pow_succ, e2]
      congr 2
      have b1 : (vs[j] / 2 ^ k % 2 = 1) ↔ (us[j] / 2 ^ k % 2 = 1) := by
        simp only [Nat.testBit_eq_decide_div_mod_eq] at e1
        simpa using e1
      omega
    · simp [hj, show ¬ j < us.length from by omega]
theorem map_mod_self {k : Nat} {vs : List Nat} (h : ∀ x ∈ vs, x < 2 ^ k) : vs.map (· % 2 ^ k) = vs := by
  conv => rhs; rw [← List.map_id vs]
  apply List.map_congr_left
  intro x hx
  simp [Nat.mod_eq_of_lt (h x hx)]
theorem lay_inj {k : Nat} {vs us : List Nat} (hv : ∀ x ∈ vs, x < 2 ^ k) (hu : ∀ x ∈ us, x < 2 ^ k) (hl : vs.length = us.length) (h : lay vs k = lay us k) : vs = us := by
  have := lay_inj_mod k vs us hl h
  rwa [map_mod_self hv, map_mod_self hu] at this
end Sp
end Go.Proofs.YtolkjadklbchfaaDoor
/- Walks of the program: bytes.Equal, bytes.HasPrefix. -/
open Go Go.RowKit
namespace Go.Proofs.YtolkjadklbchfaaDoor
namespace Ld
open Mem Rf Pr

def str (xs : List Nat) : ByteArray := strOfNums (xs.map fun (x : Nat) => (x : Int))
theorem str_inj {xs ys : List Nat} (hx : ∀ x ∈ xs, x < 256) (hy : ∀ x ∈ ys, x < 256) (h : str xs = str ys) : xs = ys := by
  have h1 := congrArg (fun b => b.data.toList) h
  simp only [str, strOfNums_data, List.map_map] at h1
  have key : ∀ l : List Nat, (∀ x ∈ l, x < 256) → (l.map ((fun n : Int => UInt8.ofNat n.toNat) ∘ fun (x : Nat) => (x : Int))).map UInt8.toNat = l := by
    intro l hl
    rw [List.map_map]
    conv => rhs; rw [← List.map_id l]
    apply List.map_congr_left
    intro x hm
    have := hl x hm
    simp [Nat.mod_eq_of_lt this]
  rw [← key xs hx, ← key ys hy, h1]
theorem str_eq {xs ys : List Nat} (hx : ∀ x ∈ xs, x < 256) (hy : ∀ x ∈ ys, x < 256) : ((str xs).toList == (str ys).toList) = decide (xs = ys) := by
  by_cases h : xs = ys
  · subst h
    simp
  · have : ¬ (str xs).toList = (str ys).toList := fun e => h (str_inj hx hy (by rw [ByteArray.toList_eq, ByteArray.toList_eq] at e; exact Go.WideShapes.bytes_inj e))
    simp [h, this]

/-- A slice of bytes made a string. -/
theorem conv_rd {P : Program} {B : Nat} (w : World) (src e dst : TypeId) {p : Option Addr} {n c : Nat} {xs : List Nat} (h : Rd B w (.slice p n c) (By xs)) (hs : P.underlying src = some (.slice e)) (he : P.underlying e = some (.int .u8)) (hd : P.underlying dst = some .string) :
    (convert src dst (.slice p n c)).run P w = .ok (.string (str xs)) w := by
  obtain ⟨p', c', hv, hlc, h⟩ := h
  simp only [Value.slice.injEq] at hv
  obtain ⟨rfl, rfl, rfl⟩ := hv
  rw [By_len] at hlc ⊢
  rcases h with h | ⟨b, o, rfl, _, h⟩
  · have hx : xs = [] := List.length_eq_zero_iff.1 (by omega)
    subst hx
    cases p with
    | none => exact run_convert_bytes_nil w src e hs he _ _ dst hd
    | some a =>
      have hl : (loadCells a ([] : List Nat).length).run P w = .ok (([] : List Int).map (Value.int .u8)).toArray w := by
        have := run_loadCells_list (P := P) w a [] (fun j v hj => by simp at hj)
        simpa using this
      rw [run_convert_bytes_string w src dst e _ _ _ hs he hd, run_bytesToString w _ _ _ [] hl]
      rfl
  · refine run_convert_bytes_arg w src e hs he b o xs.length c _ (by simp) ?_ dst hd
    intro i hi
    refine h i _ ?_
    rw [By_at _ _ hi]
    simp [List.getD, hi]

set_option maxHeartbeats 400000 in
theorem equal_any (B1 B2 : Nat) (p q : Option Addr) (n c m d : Nat) (xs ys : List Nat) (w : World) (h1 : Rd B1 w (.slice p n c) (By xs)) (h2 : Rd B2 w (.slice q m d) (By ys)) (hx : ∀ x ∈ xs, x < 256) (hy : ∀ x ∈ ys, x < 256) :
    Calls Tryd.prog 54 #[.slice p n c, .slice q m d] w fun e w' => e = .returned (.bool (decide (xs = ys))) ∧ w' = w := by
  have cv1 := conv_rd (P := Tryd.prog) w 45 5 9 h1 Tryd.underlying45 Tryd.underlying5 Tryd.underlying9
  have cv2 := conv_rd (P := Tryd.prog) w 45 5 9 h2 Tryd.underlying45 Tryd.underlying5 Tryd.underlying9
  rw [← str_eq hx hy]
  clear h1 h2 hx hy
  generalize str xs = s at *
  generalize str ys = t at *
  go_enter Tryd.func54, Tryd.ntmps54
  go_wp2
  go_ret
  exact ⟨rfl, rfl⟩

/-- The front of a slice that reads. -/
theorem rd_front {B : Nat} {w : World} {p : Option Addr} {n c k : Nat} {xs : List Nat} (h : Rd B w (.slice p n c) (By xs)) (hk : k ≤ n) : Rd B w (.slice p k c) (By (xs.take k)) := by
  obtain ⟨p', c', hv, hlc, h⟩ := h
  simp only [Value.slice.injEq] at hv
  obtain ⟨rfl, rfl, rfl⟩ := hv
  rw [By_len] at hlc hk
  refine ⟨p, c, by rw [By_len]; simp; omega, by rw [By_len]; simp; omega, ?_⟩
  rcases h with h | ⟨b, o, rfl, hb, h⟩
  · exact .inl h
  · refine .inr ⟨b, o, rfl, hb, fun j u hu => h j u ?_⟩
    have hl := (List.getElem?_eq_some_iff.1 hu).1
    rw [By_len] at hl
    simp at hl
    rw [By_at _ _ (by simp; omega)] at hu
    rw [By_at _ _ (by omega)]
    simpa using hu

set_option maxHeartbeats 400000 in
theorem prefix_any (B1 B2 : Nat) (p q : Option Addr) (n c m d : Nat) (xs ys : List Nat) (w : World) (h1 : Rd B1 w (.slice p n c) (By xs)) (h2 : Rd B2 w (.slice q m d) (By ys)) (hx : ∀ x ∈ xs, x < 256) (hy : ∀ x ∈ ys, x < 256) (hm : m ≤ n) (h0 : 0 < n) (hn : n ≤ 1000000) :
    Calls Tryd.prog 79 #[.slice p n c, .slice q m d] w fun e w' => e = .returned (.bool (decide (xs.take m = ys))) ∧ w' = w := by
  obtain ⟨hl, hlc⟩ := h1.len
  rw [By_len] at hl
  obtain ⟨b, o, rfl, hq1, hq2⟩ := h1.at 0 _ (By_at xs 0 (by omega))
  clear hq1 hq2
  have HE := hide (equal_any B1 B2 (some ⟨b, o, none⟩) q m c m d (xs.take m) ys w (rd_front h1 hm) h2 (fun x hh => hx x (List.mem_of_mem_take hh)) hy)
  clear h1 h2 hx hy hl
  generalize decide (xs.take m = ys) = r at *
  have hmc : m ≤ c := by omega
  go_enter Tryd.func79, Tryd.ntmps79
  go_wp2_with (go_at_call 54; refine at_same (unhide HE) ?_)
  go_ret
  exact ⟨rfl, rfl⟩

set_option maxHeartbeats 1000000 in
theorem apart_any (B n c : Nat) (p : Option Addr) (xs : List Nat) (w : World) (h : Rd B w (.slice p n c) (By xs)) (hB : B ≤ w.heap.size) (hx : ∀ x ∈ xs, x < 256) (h4 : 4 ≤ n) (hn : n ≤ 1000000) (hT : Tab w) :
    Calls Tryd.prog 78 #[.slice p n c] w fun e w' => e = .returned (.tuple #[.slice p (n - 4) c, .bool (decide (Sp.sealed (xs.take (n - 4)) = xs))]) ∧ Below w.heap.size w w' := by
  obtain ⟨hl, hlc⟩ := h.len
  rw [By_len] at hl
  obtain ⟨b, o, rfl, hq1, hq2⟩ := h.at 0 _ (By_at xs 0 (by omega))
  clear hq1 hq2
  obtain ⟨k, rfl⟩ : ∃ k, n = k + 4 := ⟨n - 4, by omega⟩
  rw [show k + 4 - 4 = k from by omega]
  have hxt : ∀ x ∈ xs.take k, x < 256 := fun x hm => hx x (List.mem_of_mem_take hm)
  have HW := hide (fun (w' : World) (hb : Below w.heap.size w w') => with_any w'.heap.size (.slice none 0 0) [] (some ⟨b, o, none⟩) B k c (xs.take k) w' (rd_front (h.below (hb.mono hB)) (by omega)) hxt (by omega) (hT.below hb hT.1) (World.ownsRow_nil _ _ _ _) (by simp) (Nat.le_refl _))
  have HE := hide (fun (q : Option Addr) (m d : Nat) (ys : List Nat) (w' : World) (hr : Rd w'.heap.size w' (.slice q m d) (By ys)) (hy : ∀ x ∈ ys, x < 256) (hb : Below w.heap.size w w') => equal_any w'.heap.size B q (some ⟨b, o, none⟩) m d (k + 4) c ys xs w' hr (h.below (hb.mono hB)) hy hx)
  have HSL := hide (Sp.sealed_lt hxt)
  have hkc : k ≤ c := by omega
  have HD : Hid (Below w.heap.size w w.drew) := drew_bel w
  clear h hT hx hxt hl
  generalize Sp.sealed (xs.take k) = zs at *
  go_enter Tryd.func78, Tryd.ntmps78
  go_wp2_with fail
  go_region_held3 (fun _ => True) (go_keep)
    (first
    | (go_at_call 43; refine (unhide HW _ (unhide HD)).mono ?_; rintro e wa ⟨v1, rfl, ho1, hs1, hg1, _⟩; obtain ⟨q1, d1, rfl, _⟩ := own_slice ho1; have hba := (Below.refl _ _).grown hg1 (Nat.le_refl _) (by intro k hk; cases hk); have R1 := hide (Rd.owned ho1); have hd := bel_trans (unhide HD) hba; have HD := hide hd; clear ho1 hba hd hs1 hg1)
    | (go_at_call 54; refine at_same (unhide HE _ _ _ _ _ (unhide R1) (unhide HSL) (unhide HD)) ?_))
  all_goals
    go_wp2
    go_ret2
    exact ⟨rfl, unhide HD⟩
end Ld
end Go.Proofs.YtolkjadklbchfaaDoor
/- Walks of the program: bitrow.Read. -/
open Go Go.RowKit
namespace Go.Proofs.YtolkjadklbchfaaDoor
namespace Sp
/-- Words of bytes: behind k bytes. -/
def rw (bs : List Nat) (m : Nat) : Nat → List Nat
  | 0 => List.replicate m 0
  | k + 1 => (rw bs m k).set (k / 8) (((rw bs m k)[k / 8]?.getD 0) ||| ((bs[k]?.getD 0) * 2 ^ (k % 8 * 8)))
theorem rw_len (bs : List Nat) (m k : Nat) : (rw bs m k).length = m := by
  induction k with
  | zero => simp [rw]
  | succ k ih => simp [rw, ih]
theorem byte_shift {x s : Nat} (hx : x < 256) (hs : s < 8) : x * 2 ^ (s * 8) < 18446744073709551616 := by
  have h1 : x * 2 ^ (s * 8) < 2 ^ 8 * 2 ^ (s * 8) := Nat.mul_lt_mul_of_pos_right hx (Nat.pow_pos (by omega))
  rw [← Nat.pow_add] at h1
  exact Nat.lt_of_lt_of_le h1 (Nat.pow_le_pow_right (by omega) (by omega : 8 + s * 8 ≤ 64))
theorem rw_lt {bs : List Nat} (h : ∀ x ∈ bs, x < 256) (m k : Nat) : ∀ x ∈ rw bs m k, x < 18446744073709551616 := by
  induction k with
  | zero =>
    intro x hx
    simp [rw] at hx
    omega
  | succ k ih =>
    intro x hx
    unfold rw at hx
    rcases List.mem_or_eq_of_mem_set hx with h1 | h1
    · exact ih x h1
    · subst h1
      exact Nat.or_lt_two_pow (n := 64) (getD_lt ih (by omega) _) (byte_shift (getD_lt h (by omega) k) (Nat.mod_lt _ (by omega)))
theorem byte_bit {x s j : Nat} (hx : x < 256) : (x * 2 ^ (s * 8)).testBit j = (decide (s = j / 8) && x.testBit (j % 8)) := by
  rw [Nat.mul_comm, Nat.testBit_two_pow_mul]
  by_cases h : s = j / 8
  · rw [show decide (j ≥ s * 8) = true from by simp; omega, show j - s * 8 = j % 8 from by omega]
    simp [h]
  · rw [show decide (s = j / 8) = false from by simp [h], Bool.false_and]
    by_cases h2 : s * 8 ≤ j
    · rw [Nat.testBit_lt_two_pow (Nat.lt_of_lt_of_le (show x < 2 ^ 8 from hx) (Nat.pow_le_pow_right (by omega) (by omega : 8 ≤ j - s * 8)))]
      simp
    · simp [h2]
theorem rw_bit {bs : List Nat} (h : ∀ x ∈ bs, x < 256) (m k i j : Nat) (hj : j < 64) (hk : (k + 7) / 8 ≤ m) : ((rw bs m k)[i]?.getD 0).testBit j = (decide (8 * i + j / 8 < k) && (bs[8 * i + j / 8]?.getD 0).testBit (j % 8)) := by
  induction k with
  | zero =>
    simp [rw, List.getElem?_replicate]
    split <;> simp
  | succ k ih =>
    have ih := ih (by omega)
    have hlen := rw_len bs m k
    unfold rw
    by_cases hi : k / 8 = i
    · rw [List.getElem?_set, if_pos hi, if_pos (by omega)]
      simp only [Option.getD_some]
      rw [Nat.testBit_or, hi, ih, byte_bit (getD_lt h (by omega) k)]
      by_cases he : 8 * i + j / 8 = k
      · rw [he]
        simp [show k % 8 = j / 8 from by omega]
      · rw [show decide (k % 8 = j / 8) = false from by simp; omega, show decide (8 * i + j / 8 < k + 1) = decide (8 * i + j / 8 < k) from by rw [decide_eq_decide]; omega]
        simp
    · rw [List.getElem?_set, if_neg hi, ih, show decide (8 * i + j / 8 < k + 1) = decide (8 * i + j / 8 < k) from by rw [decide_eq_decide]; omega]
/-- The last word's mask: then these are the words of the bits. -/
theorem rw_words {bs : List Nat} (h : ∀ x ∈ bs, x < 256) (n : Nat) (hl : bs.length = (n + 7) / 8) : (rw bs (n / 64 + 1) bs.length).set (n / 64) (((rw bs (n / 64 + 1) bs.length)[n / 64]?.getD 0) % 2 ^ (n % 64)) = words (rd bs n) := by
  have hwl : (words (rd bs n)).length = n / 64 + 1 := by rw [words_len, rd_len]
  have hrl := rw_len bs (n / 64 + 1) bs.length
  have key : ∀ i : Nat, ((rw bs (n / 64 + 1) bs.length).set (n / 64) (((rw bs (n / 64 + 1) bs.length)[n / 64]?.getD 0) % 2 ^ (n % 64)))[i]?.getD 0 = (words (rd bs n))[i]?.getD 0 := by
    intro i
    apply Nat.eq_of_testBit_eq
    intro j
    by_cases hj : j < 64
    · rw [words_bit _ _ _ hj]
      have hb := rw_bit h (n / 64 + 1) bs.length i j hj (by omega)
      have hr : (rd bs n)[64 * i + j]?.getD false = (decide (64 * i + j < n) && (bs[8 * i + j / 8]?.getD 0).testBit (j % 8)) := by
        by_cases hn : 64 * i + j < n
        · rw [rd_at _ _ _ hn]
          simp [hn, bitOf, show (64 * i + j) / 8 = 8 * i + j / 8 from by omega, show (64 * i + j) % 8 = j % 8 from by omega]
        · simp [hn, rd_len]
      rw [hr]
      by_cases hi : n / 64 = i
      · rw [List.getElem?_set, if_pos hi, if_pos (by omega)]
        simp only [Option.getD_some]
        rw [show (rw bs (n / 64 + 1) bs.length)[n / 64]? = (rw bs (n / 64 + 1) bs.length)[i]? from by rw [hi], Nat.testBit_mod_two_pow, hb, ← Bool.and_assoc, ← Bool.decide_and]
        congr 1
        rw [decide_eq_decide]
        omega
      · rw [List.getElem?_set, if_neg hi, hb]
        by_cases hi2 : i < n / 64
        · rw [show decide (8 * i + j / 8 < bs.length) = true from by simp; omega, show decide (64 * i + j < n) = true from by simp; omega]
        · rw [show decide (64 * i + j < n) = false from by simp; omega, show decide (8 * i + j / 8 < bs.length) = false from by simp; omega]
    · have h64 : 18446744073709551616 ≤ 2 ^ j := Nat.le_trans (by decide : 18446744073709551616 ≤ 2 ^ 64) (Nat.pow_le_pow_right (by omega) (by omega))
      rw [Nat.testBit_lt_two_pow (Nat.lt_of_lt_of_le (getD_lt (words_lt _) (by omega) i) h64), Nat.testBit_lt_two_pow (Nat.lt_of_lt_of_le ?_ h64)]
      rw [List.getElem?_set]
      split
      · split
        · exact Nat.lt_of_le_of_lt (Nat.mod_le _ _) (getD_lt (rw_lt h _ _) (by omega) _)
        · simp
      · exact getD_lt (rw_lt h _ _) (by omega) _
  have hsl : ((rw bs (n / 64 + 1) bs.length).set (n / 64) (((rw bs (n / 64 + 1) bs.length)[n / 64]?.getD 0) % 2 ^ (n % 64))).length = n / 64 + 1 := by rw [List.length_set, hrl]
  apply List.ext_getElem?
  intro i
  have := key i
  by_cases hi : i < n / 64 + 1
  · generalize (rw bs (n / 64 + 1) bs.length).set (n / 64) (((rw bs (n / 64 + 1) bs.length)[n / 64]?.getD 0) % 2 ^ (n % 64)) = A at *
    generalize words (rd bs n) = C at *
    rw [List.getElem?_eq_getElem (by omega), List.getElem?_eq_getElem (by omega)] at this ⊢
    simpa using this
  · rw [List.getElem?_eq_none (by simp [hrl]; omega), List.getElem?_eq_none (by omega)]
end Sp
namespace Ld
open Mem Rf Pr
theorem or_shl (x y k : Nat) (hx : x < 18446744073709551616) (hy : y < 256) : bits BinOp.or IntKind.u64 (x : Int) (IntKind.u64.wrap ((y : Int) * 2 ^ (k % 8 * 8))) = ((x ||| y * 2 ^ (k % 8 * 8) : Nat) : Int) := by
  have hp := Sp.byte_shift (s := k % 8) hy (Nat.mod_lt _ (by omega))
  have e : IntKind.u64.wrap ((y : Int) * 2 ^ (k % 8 * 8)) = ((y * 2 ^ (k % 8 * 8) : Nat) : Int) := by
    rw [IntKind.wrap_u64, ← Nat.mod_eq_of_lt hp]
    simp
  rw [e]
  exact u64_or_nat x _ hx hp

theorem and_mask (x len : Nat) (hx : x < 18446744073709551616) : bits BinOp.and IntKind.u64 (x : Int) (IntKind.u64.wrap (IntKind.u64.wrap (2 ^ (len % 64)) - 1)) = ((x % 2 ^ (len % 64) : Nat) : Int) := by
  have hp := pow64 len
  have h0 : 0 < 2 ^ (len % 64) := Nat.pow_pos (by omega)
  have e : IntKind.u64.wrap (2 ^ (len % 64)) = ((2 ^ (len % 64) : Nat) : Int) := by
    rw [IntKind.wrap_u64, ← Nat.mod_eq_of_lt hp]
    simp
  have e2 : IntKind.u64.wrap (((2 ^ (len % 64) : Nat) : Int) - 1) = ((2 ^ (len % 64) - 1 : Nat) : Int) := by
    rw [IntKind.wrap_u64, show (((2 ^ (len % 64) : Nat) : Int) - 1) = ((2 ^ (len % 64) - 1 : Nat) : Int) from by omega]
    omega
  rw [e, e2, u64_and_nat x _ hx (by omega), Nat.and_two_pow_sub_one_eq_mod]

/-- What Read holds on its way. -/
structure ReSt (w wr : World) (m : Nat) (bs : List Nat) (k : Nat) : Prop where
  own : wr.ownsRow (w.heap.size + 1) 27 1 (.slice (some ⟨w.heap.size + 1, 0, none⟩) m m) m (U64 (Sp.rw bs m k))
  bel : Below w.heap.size w wr
  res : Res3 w.heap.size wr

set_option maxHeartbeats 1000000 in
theorem rread_any (p : Option Addr) (B n c len : Nat) (bs : List Nat) (w : World) (hr : Rd B w (.slice p n c) (By bs)) (hB : B ≤ w.heap.size) (hx : ∀ x ∈ bs, x < 256) (hl : bs.length = (len + 7) / 8) (hn : len ≤ 1000000) :
    Calls Tryd.prog 84 #[.slice p n c, .int .i64 (len : Nat)] w fun e w' => ∃ yw ya, e = .returned (.agg #[yw, ya, .int .i64 (len : Nat)]) ∧ RowIs w.heap.size w' yw ya (Sp.rd bs len) ∧ Below w.heap.size w w' := by
  obtain ⟨hl2, hlc⟩ := hr.len
  rw [By_len] at hl2
  obtain ⟨i0, hi, hz0, hz1, hz2⟩ := info_parts Ty.u64
  have Hb : Hid (i0.bytes = 8) := hz2
  clear hz2
  obtain ⟨m, hmm⟩ : ∃ m, m = len / 64 + 1 := ⟨_, rfl⟩
  have hm : m ≤ 1000000 := by omega
  have HM := hide hmm
  have HFIN : Hid ((Sp.rw bs m n).set (len / 64) (((Sp.rw bs m n)[len / 64]?.getD 0) % 2 ^ (len % 64)) = Sp.words (Sp.rd bs len)) := by
    rw [Hid, hmm, hl2]
    exact Sp.rw_words hx len hl
  have HX := hide hx
  have HR := hide hr
  have HL := hide (And.intro hl hl2)
  have hn8 : n ≤ 200000 := by omega
  clear hmm hr hx hl hl2
  go_enter Tryd.func84, Tryd.ntmps84
  go_wp2_with (at_make; (refine wpList_make_full _ rfl (.tmp 10) (.tmp 10) 22 rfl (w.heap.size + 1) 27 i0 (.int .u64 0) 1 Tryd.underlying22 hi hz0 hz1 .i64 .i64 _ _ m rfl rfl (by rw [unhide HM]; go_num) (by rw [unhide HM]; go_num) (by rw [Hb.out]; omega) (by unfold maxLen; omega) (by simp) ?_); intro w1 hown1 hg1)
  rw [made_u64s, show (w.alloc (Obj.cells #[Value.slice none 0 0, Value.slice none 0 0, Value.int IntKind.i64 0] 68)).heap.size = w.heap.size + 1 from by simp] at hown1
  have HS : Hid (ReSt w w1 m bs 0) := by
    refine ⟨hown1, ((Below.refl _ _).alloc (Nat.le_refl _) _).grown hg1 (by simp) (by intro k hk; cases hk), ?_⟩
    exact (hg1.block w.heap.size (by simp) (by simp)).trans (heap_alloc_new _ _)
  clear hg1 hi hz0 hz1 hown1
  go_loopw [14] (fun i wr => ∃ k : Nat, k ≤ n ∧ i = .int .i64 k ∧ ReSt w wr m bs k) (fun i _ => n - (intOf i).toNat)
  case atStart => exact ⟨0, Nat.zero_le _, rfl, unhide HS⟩
  case round =>
    obtain ⟨k, hk, rfl, hst⟩ := hrel
    clear HS
    by_cases hlt : k < n
    · have hkl : k < bs.length := by rw [← (unhide HL).2]; exact hlt
      obtain ⟨b, o, rfl, hb, hc⟩ := ((unhide HR).below (hst.bel.mono hB)).at k _ (By_at bs k hkl)
      have hk8 : k / 8 < m := by have := (unhide HL).1; have := unhide HM; omega
      have hpl : (Sp.rw bs m k).length = m := Sp.rw_len _ _ _
      have hc8 := (hst.own.cellAt (k / 8) (by omega)).trans (U64_at (Sp.rw bs m k) (k / 8) (by omega))
      have hf8 := hst.own.frozenAt (k / 8)
      have hx : (Sp.rw bs m k)[k / 8] < 18446744073709551616 := Sp.rw_lt (unhide HX) m k _ (List.getElem_mem _)
      have hy := unhide HX _ (List.getElem_mem hkl)
      have HN : Hid (Sp.rw bs m (k + 1) = (Sp.rw bs m k).set (k / 8) ((Sp.rw bs m k)[k / 8] ||| bs[k] * 2 ^ (k % 8 * 8))) := by
        rw [Hid]
        show (Sp.rw bs m k).set (k / 8) (((Sp.rw bs m k)[k / 8]?.getD 0) ||| ((bs[k]?.getD 0) * 2 ^ (k % 8 * 8))) = _
        rw [List.getElem?_eq_getElem (by omega), List.getElem?_eq_getElem hkl]
        rfl
      have HST := hide hst
      have h8 : k / 8 < 18446744073709551616 := by omega
      clear hst
      generalize hX : (Sp.rw bs m k)[k / 8] = x at *
      generalize bs[k] = y at *
      clear hX hpl hkl
      have HOR := hide (or_shl x y k hx hy)
      go_wp2_with fail
      go_region
      all_goals go_wp2
      go_roundw
      case rel =>
        have hs := (unhide HST).own.stored (k / 8) (.int .u64 (bits BinOp.or IntKind.u64 (x : Int) (IntKind.u64.wrap ((y : Int) * 2 ^ (k % 8 * 8)))))
        refine ⟨k + 1, by omega, by go_num, ?_, ((unhide HST).bel.setCell (by simp) _).drew, ?_⟩
        · rw [unhide HOR, unhide HN, U64_set]
          rw [unhide HOR] at hs
          exact hs.1.drew
        · exact (hs.2.block w.heap.size (by have := (unhide HST).bel.size; have := (Array.getElem?_eq_some_iff.1 (unhide HST).res).1; omega) (by simp)).trans (unhide HST).res
      case measure => simp [intOf]; omega
    · have he : n = k := by omega
      subst he
      have hlm : len / 64 < m := by have := unhide HM; omega
      have hpl : (Sp.rw bs m n).length = m := Sp.rw_len _ _ _
      have hc8 := (hst.own.cellAt (len / 64) (by omega)).trans (U64_at (Sp.rw bs m n) (len / 64) (by omega))
      have hf8 := hst.own.frozenAt (len / 64)
      have hx : (Sp.rw bs m n)[len / 64] < 18446744073709551616 := Sp.rw_lt (unhide HX) m n _ (List.getElem_mem _)
      have HN : Hid ((Sp.rw bs m n).set (len / 64) ((Sp.rw bs m n)[len / 64] % 2 ^ (len % 64)) = Sp.words (Sp.rd bs len)) := by
        rw [Hid, ← HFIN.out, List.getElem?_eq_getElem (by omega)]
        rfl
      have HST := hide hst
      clear hst HFIN
      generalize hX : (Sp.rw bs m n)[len / 64] = x at *
      clear hX hpl hlt hk
      go_wp2_with fail
      go_region
      all_goals go_wp2_with fail
      rw [and_mask x len hx]
      have hs := (unhide HST).own.stored (len / 64) (.int .u64 ((x % 2 ^ (len % 64) : Nat) : Int))
      have hown := hs.1.drew
      rw [← U64_set, unhide HN] at hown
      have hbel : Below w.heap.size w (wr.setCell ⟨w.heap.size + 1, len / 64, none⟩ (.int .u64 ((x % 2 ^ (len % 64) : Nat) : Int))).drew := ((unhide HST).bel.setCell (by simp) _).drew
      have hres0 : Res3 w.heap.size (wr.setCell ⟨w.heap.size + 1, len / 64, none⟩ (.int .u64 ((x % 2 ^ (len % 64) : Nat) : Int))).drew := (hs.2.block w.heap.size (by have := (unhide HST).bel.size; have := (Array.getElem?_eq_some_iff.1 (unhide HST).res).1; omega) (by simp)).trans (unhide HST).res
      generalize (wr.setCell ⟨w.heap.size + 1, len / 64, none⟩ (.int .u64 ((x % 2 ^ (len % 64) : Nat) : Int))).drew = wq at *
      have HC := hide (counted_any _ _ m m (Sp.words (Sp.rd bs len)) wq (Rd.owned hown) (Nat.le_refl _) (Sp.words_lt _) hm)
      have HO := hide hown
      have HB0 := hide hbel
      have HRS := hide hres0
      clear hs hown hbel hres0 HST hc8 hf8 hx
      refine (unhide HC).mono ?_
      rintro e w2 ⟨v2, rfl, ho2, hb2⟩
      obtain ⟨p2, c2, rfl, _⟩ := own_slice ho2
      have hsz := (unhide HB0).size
      have hrl := (Array.getElem?_eq_some_iff.1 (unhide HRS)).1
      have hres : Res3 w.heap.size w2 := (hb2.block w.heap.size hrl).trans (unhide HRS)
      have HR2 := hide (own_later (unhide HO) hb2)
      have HA2 := hide ho2
      have HB2 := hide ((unhide HB0).trans (hb2.mono hsz))
      have c0 : w2.cell? ⟨w.heap.size, 0, none⟩ = some (.slice none 0 0) := by rw [cell_of_row _ _ _ _ _ (0, 0) hres]; rfl
      have c1 : w2.cell? ⟨w.heap.size, 1, none⟩ = some (.slice none 0 0) := by rw [cell_of_row _ _ _ _ _ (0, 0) hres]; rfl
      have c3 : w2.cell? ⟨w.heap.size, 2, none⟩ = some (.int .i64 0) := by rw [cell_of_row _ _ _ _ _ (0, 0) hres]; rfl
      have ff : ∀ j, w2.frozen? ⟨w.heap.size, j, none⟩ = false := fun j => frozen_of_row w2 _ j _ _ hres
      clear ho2 hb2 hres
      go_wp2
      have hex : ∀ i, i < ([.slice (some ⟨w.heap.size + 1, 0, none⟩) m m, .slice p2 m c2, .int .i64 (len : Nat)] : List Value).length → ∃ u, w2.cell? ⟨w.heap.size, 0 + i, none⟩ = some u := by
        intro i hi
        match i, hi with
        | 0, _ => exact ⟨_, c0⟩
        | 1, _ => exact ⟨_, c1⟩
        | 2, _ => exact ⟨_, c3⟩
      have g0 := setAll_cell 0 _ hex 0 _ rfl
      have g1 := setAll_cell 0 _ hex 1 _ rfl
      have g2 := setAll_cell 0 _ hex 2 _ rfl
      have hml : m = (Sp.rd bs len).length / 64 + 1 := by rw [Sp.rd_len]; exact unhide HM
      have HRW := hide (setAll_row (RowIs.mk (l := Sp.rd bs len) (by rw [← hml]; exact unhide HR2) (by rw [← hml]; exact own_base (unhide HA2) (by have := Nat.succ_le_of_lt hrl; omega))) (show w.heap.size < w.heap.size + 1 by omega) 0 ([.slice (some ⟨w.heap.size + 1, 0, none⟩) m m, .slice p2 m c2, .int .i64 (len : Nat)] : List Value))
      have HBW := hide (setAll_below (Nat.le_refl w.heap.size) 0 ([.slice (some ⟨w.heap.size + 1, 0, none⟩) m m, .slice p2 m c2, .int .i64 (len : Nat)] : List Value) (unhide HB2))
      simp only [setAll, Nat.zero_add] at g0 g1 g2
      refine bodyPost_ret (v := .agg #[.slice (some ⟨w.heap.size + 1, 0, none⟩) m m, .slice p2 m c2, .int .i64 (len : Nat)]) (by simp [results, Tryd.results84, go_sem, g0, g1, g2]) rfl ?_
      exact ⟨_, _, rfl, (unhide HRW).base (by omega), unhide HBW⟩
end Ld
end Go.Proofs.YtolkjadklbchfaaDoor
/- Walks of the program: sizes of the parts; what is read of them. -/
open Go Go.RowKit
namespace Go.Proofs.YtolkjadklbchfaaDoor
namespace Ld
open Mem Rf Pr

theorem wn_small {W n : Nat} (hW : W ≤ 64) (hn : n ≤ 200) : W * n ≤ 12800 := Nat.mul_le_mul hW hn

set_option maxHeartbeats 400000 in
theorem lsize_any (W n : Nat) (hW : W ≤ 64) (hn : n ≤ 200) (w : World) : Calls Tryd.prog 81 #[.int .i64 (W : Nat), .int .i64 (n : Nat)] w fun e w' => e = .returned (.int .i64 ((W * n + 7) / 8 : Nat)) ∧ w' = w := by
  have hs := wn_small hW hn
  have HZ := hide (fun w => rsize_any (W * n) (by omega) w)
  have he : (W : Int) * (n : Int) = ((W * n : Nat) : Int) := by simp
  have h1 : (0 : Int) ≤ (W : Int) * (n : Int) := by omega
  have h2 : (W : Int) * (n : Int) ≤ 12800 := by omega
  rw [← he] at HZ
  clear he hs
  generalize (W * n + 7) / 8 = r at *
  go_enter Tryd.func81, Tryd.ntmps81
  go_wp2_with (go_at_call 103; refine at_same (unhide HZ _) ?_)
  go_ret
  exact ⟨rfl, rfl⟩
set_option maxHeartbeats 400000 in
theorem bsize_any (n : Nat) (hn : n ≤ 200) (w : World) : Calls Tryd.prog 82 #[.int .i64 (n : Nat)] w fun e w' => e = .returned (.int .i64 ((2 * n + 7) / 8 : Nat)) ∧ w' = w := by
  have HZ := hide (fun w => rsize_any (2 * n) (by omega) w)
  rw [show ((2 * n : Nat) : Int) = 2 * (n : Int) from by omega] at HZ
  generalize (2 * n + 7) / 8 = r at *
  go_enter Tryd.func82, Tryd.ntmps82
  go_wp2_with (go_at_call 103; refine at_same (unhide HZ _) ?_)
  go_ret
  exact ⟨rfl, rfl⟩
/-- How many bits the marks have. -/
def mlen (n m : Nat) : Nat := m * Sp.pow n m + (m + n / 2 ^ Sp.pow n m + 1)
theorem mlen_small {n m : Nat} (hn : n ≤ 200) (hm : m ≤ 200) : mlen n m ≤ 2500 := by
  have h1 := pow_small (m := m) (show n ≤ 1000 by omega)
  have h2 : m * Sp.pow n m ≤ 200 * 10 := Nat.mul_le_mul hm h1
  have h3 : n / 2 ^ Sp.pow n m ≤ n := Nat.div_le_self _ _
  unfold mlen
  omega
theorem marks_mlen (n : Nat) (ms : List Nat) : (Sp.marks n ms).length = mlen n ms.length := by
  unfold Sp.marks mlen Sp.high
  rw [List.length_append, Sp.lows_len, Sp.highTo_len]
set_option maxHeartbeats 400000 in
theorem mlength_any (n m : Nat) (hn : n ≤ 200) (hm : m ≤ 200) (w : World) : Calls Tryd.prog 85 #[.int .i64 (m : Nat), .int .i64 (n : Nat)] w fun e w' => e = .returned (.int .i64 (mlen n m : Nat)) ∧ w' = w := by
  have HL := hide (fun w => low_any n m w (by omega) (by omega))
  have HH := hide (fun w => mhigh_any n m w (by omega) (by omega))
  have hsm := mlen_small hn hm
  have he : (m : Int) * (Sp.pow n m : Int) + ((m + n / 2 ^ Sp.pow n m + 1 : Nat) : Int) = (mlen n m : Nat) := by simp [mlen]
  have h0 : (0 : Int) ≤ (m : Int) * (Sp.pow n m : Int) := by rw [show (m : Int) * (Sp.pow n m : Int) = ((m * Sp.pow n m : Nat) : Int) from by simp]; exact Int.natCast_nonneg _
  generalize m + n / 2 ^ Sp.pow n m + 1 = hh at *
  generalize Sp.pow n m = q at *
  generalize mlen n m = r at *
  have HE := hide he
  have h1 : (m : Int) * (q : Int) ≤ 2500 := by omega
  have h2 : (hh : Int) ≤ 2500 := by omega
  clear he
  go_enter Tryd.func85, Tryd.ntmps85
  go_wp2_with (first
    | (go_at_call 86; refine at_same (unhide HL _) ?_)
    | (go_at_call 93; refine at_same (unhide HH _) ?_))
  go_ret
  exact ⟨ret_int (unhide HE), rfl⟩
set_option maxHeartbeats 400000 in
theorem msize_any (n m : Nat) (hn : n ≤ 200) (hm : m ≤ 200) (w : World) : Calls Tryd.prog 83 #[.int .i64 (m : Nat), .int .i64 (n : Nat)] w fun e w' => e = .returned (.int .i64 ((mlen n m + 7) / 8 : Nat)) ∧ w' = w := by
  have HL := hide (fun w => mlength_any n m hn hm w)
  have hsm := mlen_small hn hm
  have HZ := hide (fun w => rsize_any (mlen n m) (by omega) w)
  generalize (mlen n m + 7) / 8 = r at *
  generalize mlen n m = q at *
  go_enter Tryd.func83, Tryd.ntmps83
  go_wp2_with (first
    | (go_at_call 85; refine at_same (unhide HL _) ?_)
    | (go_at_call 103; refine at_same (unhide HZ _) ?_))
  go_ret
  exact ⟨rfl, rfl⟩
set_option maxHeartbeats 400000 in
theorem number_any (x y : Nat) (hx : x < 256) (hy : y < 256) (w : World) : Calls Tryd.prog 80 #[.int .u8 (x : Nat), .int .u8 (y : Nat)] w fun e w' => e = .returned (.int .i64 ((x + 256 * y : Nat) : Int)) ∧ w' = w := by
  go_enter Tryd.func80, Tryd.ntmps80
  go_wp2
  go_ret
  exact ⟨ret_int (by go_num), rfl⟩

/-- Behind the result's block the row is read, and the block is filled. -/
theorem read_end {w w4 : World} {yw ya : Value} {l : List Bool} {t : TypeId} (hr : RowIs (w.alloc (.cells #[.slice none 0 0, .slice none 0 0, .int .i64 0, .int .i64 0, .int .i64 0] t)).heap.size w4 yw ya l) (hb : Below (w.alloc (.cells #[.slice none 0 0, .slice none 0 0, .int .i64 0, .int .i64 0, .int .i64 0] t)).heap.size (w.alloc (.cells #[.slice none 0 0, .slice none 0 0, .int .i64 0, .int .i64 0, .int .i64 0] t)) w4) (vs : List Value) (hlen : vs.length ≤ 5) :
    (∀ j u, (#[.slice none 0 0, .slice none 0 0, .int .i64 0, .int .i64 0, .int .i64 0] : Array Value)[j]? = some u → w4.cell? ⟨w.heap.size, j, none⟩ = some u) ∧ (∀ j, w4.frozen? ⟨w.heap.size, j, none⟩ = false) ∧ (∀ i v, vs[i]? = some v → (setAll w4 w.heap.size 0 vs).cell? ⟨w.heap.size, i, none⟩ = some v) ∧
      RowIs w.heap.size (setAll w4 w.heap.size 0 vs) yw ya l ∧ Below w.heap.size w (setAll w4 w.heap.size 0 vs) :=
  ResB.end (ResB.start w _ t) (Below.refl _ _) hr hb vs (by simpa using hlen)

set_option maxHeartbeats 1000000 in
theorem lread_any (p : Option Addr) (B c W n : Nat) (bs : List Nat) (w : World) (hr : Rd B w (.slice p bs.length c) (By bs)) (hB : B ≤ w.heap.size) (hx : ∀ x ∈ bs, x < 256) (hW : W ≤ 64) (hn : n ≤ 200) (hl : bs.length = (W * n + 7) / 8) :
    Calls Tryd.prog 50 #[.slice p bs.length c, .int .i64 (W : Nat), .int .i64 (n : Nat)] w fun e w' => ∃ yw ya us, e = .returned (.agg #[yw, ya, .int .i64 ((Sp.lay us W).length : Nat), .int .i64 (W : Nat), .int .i64 (n : Nat)]) ∧ us.length = n ∧ (∀ x ∈ us, x < 2 ^ W) ∧ Sp.lay us W = Sp.rd bs (W * n) ∧ Ly w.heap.size w' yw ya us W ∧ Below w.heap.size w w' := by
  have hs := wn_small hW hn
  obtain ⟨us, hul, hult, hlay⟩ := Sp.lay_surj W n (Sp.rd bs (W * n)) (by rw [Sp.rd_len])
  have hlen : (Sp.lay us W).length = W * n := by rw [hlay, Sp.rd_len]
  have HRD := hide (fun (w' : World) (hb : Below w.heap.size w w') => rread_any p B bs.length c (W * n) bs w' (hr.below (hb.mono hB)) (Nat.le_trans hB hb.size) hx hl (by omega))
  have he : (W : Int) * (n : Int) = ((W * n : Nat) : Int) := by simp
  have h1 : (0 : Int) ≤ (W : Int) * (n : Int) := by omega
  have h2 : (W : Int) * (n : Int) ≤ 12800 := by omega
  rw [← he] at HRD
  have HFA := hide (And.intro hul (And.intro hult (And.intro hlay hlen)))
  have HE := hide he
  clear hr hx hl hul hult hlay hlen hs he
  go_enter Tryd.func50, Tryd.ntmps50
  go_wp2_with fail
  refine (unhide HRD _ (alloc_bel _ _)).mono ?_
  rintro e w4 ⟨yw, ya, rfl, ho4, hb4⟩
  obtain ⟨pw, cw, pa, ca, rfl, rfl⟩ := ho4.form
  have HX := hide (read_end ho4 hb4 [.slice pw ((Sp.rd bs (W * n)).length / 64 + 1) cw, .slice pa ((Sp.rd bs (W * n)).length / 64 + 1) ca, .int .i64 ((W : Int) * (n : Int)), .int .i64 (W : Nat), .int .i64 (n : Nat)] (by simp))
  have c0 := (unhide HX).1 0 _ rfl
  have c1 := (unhide HX).1 1 _ rfl
  have c2 := (unhide HX).1 2 _ rfl
  have c3 := (unhide HX).1 3 _ rfl
  have c4 := (unhide HX).1 4 _ rfl
  have hf4 := (unhide HX).2.1
  have g0 := (unhide HX).2.2.1 0 _ rfl
  have g1 := (unhide HX).2.2.1 1 _ rfl
  have g2 := (unhide HX).2.2.1 2 _ rfl
  have g3 := (unhide HX).2.2.1 3 _ rfl
  have g4 := (unhide HX).2.2.1 4 _ rfl
  simp only [setAll, Nat.zero_add, Nat.reduceAdd] at g0 g1 g2 g3 g4
  have HG := hide (And.intro g0 (And.intro g1 (And.intro g2 (And.intro g3 g4))))
  clear ho4 hb4 g0 g1 g2 g3 g4 HRD
  go_wp2
  refine bodyPost_ret (v := .agg #[.slice pw ((Sp.rd bs (W * n)).length / 64 + 1) cw, .slice pa ((Sp.rd bs (W * n)).length / 64 + 1) ca, .int .i64 ((W : Int) * (n : Int)), .int .i64 (W : Nat), .int .i64 (n : Nat)]) (by simp [results, Tryd.results50, go_sem, (unhide HG).1, (unhide HG).2.1, (unhide HG).2.2.1, (unhide HG).2.2.2.1, (unhide HG).2.2.2.2]) rfl ?_
  obtain ⟨f1, f2, f3, f4⟩ := unhide HFA
  refine ⟨_, _, us, by rw [f4, ← unhide HE], f1, f2, f3, ⟨by rw [f3]; exact (unhide HX).2.2.2.1, by omega, hW⟩, (unhide HX).2.2.2.2⟩

set_option maxHeartbeats 1000000 in
theorem mread_any (p : Option Addr) (B c m n : Nat) (bs : List Nat) (w : World) (hr : Rd B w (.slice p bs.length c) (By bs)) (hB : B ≤ w.heap.size) (hx : ∀ x ∈ bs, x < 256) (hm : m ≤ 200) (hn : n ≤ 200) (hl : bs.length = (mlen n m + 7) / 8) :
    Calls Tryd.prog 52 #[.slice p bs.length c, .int .i64 (m : Nat), .int .i64 (n : Nat)] w fun e w' => ∃ yw ya, e = .returned (.agg #[yw, ya, .int .i64 (mlen n m : Nat), .int .i64 (m : Nat), .int .i64 (Sp.pow n m : Nat)]) ∧ RowIs w.heap.size w' yw ya (Sp.rd bs (mlen n m)) ∧ Below w.heap.size w w' := by
  have hs := mlen_small hn hm
  have HRD := hide (fun (w' : World) (hb : Below w.heap.size w w') => rread_any p B bs.length c (mlen n m) bs w' (hr.below (hb.mono hB)) (Nat.le_trans hB hb.size) hx hl (by omega))
  have HML := hide (fun w => mlength_any n m hn hm w)
  have HLB := hide (fun w => low_any n m w (by omega) (by omega))
  clear hr hx hl
  generalize mlen n m = len at *
  generalize Sp.pow n m = q at *
  go_enter Tryd.func52, Tryd.ntmps52
  go_wp2_with (go_at_call 85; refine at_same (unhide HML _) ?_)
  refine (unhide HRD _ (alloc_bel _ _)).mono ?_
  rintro e w4 ⟨yw, ya, rfl, ho4, hb4⟩
  obtain ⟨pw, cw, pa, ca, rfl, rfl⟩ := ho4.form
  have HX := hide (read_end ho4 hb4 [.slice pw ((Sp.rd bs len).length / 64 + 1) cw, .slice pa ((Sp.rd bs len).length / 64 + 1) ca, .int .i64 (len : Nat), .int .i64 (m : Nat), .int .i64 (q : Nat)] (by simp))
  have c0 := (unhide HX).1 0 _ rfl
  have c1 := (unhide HX).1 1 _ rfl
  have c2 := (unhide HX).1 2 _ rfl
  have c3 := (unhide HX).1 3 _ rfl
  have c4 := (unhide HX).1 4 _ rfl
  have hf4 := (unhide HX).2.1
  have g0 := (unhide HX).2.2.1 0 _ rfl
  have g1 := (unhide HX).2.2.1 1 _ rfl
  have g2 := (unhide HX).2.2.1 2 _ rfl
  have g3 := (unhide HX).2.2.1 3 _ rfl
  have g4 := (unhide HX).2.2.1 4 _ rfl
  simp only [setAll, Nat.zero_add, Nat.reduceAdd] at g0 g1 g2 g3 g4
  have HG := hide (And.intro g0 (And.intro g1 (And.intro g2 (And.intro g3 g4))))
  clear ho4 hb4 g0 g1 g2 g3 g4 HRD
  go_wp2_with (go_at_call 86; refine at_same (unhide HLB _) ?_)
  refine bodyPost_ret (v := .agg #[.slice pw ((Sp.rd bs len).length / 64 + 1) cw, .slice pa ((Sp.rd bs len).length / 64 + 1) ca, .int .i64 (len : Nat), .int .i64 (m : Nat), .int .i64 (q : Nat)]) (by simp [results, Tryd.results52, go_sem, (unhide HG).1, (unhide HG).2.1, (unhide HG).2.2.1, (unhide HG).2.2.2.1, (unhide HG).2.2.2.2]) rfl ?_
  exact ⟨_, _, rfl, (unhide HX).2.2.2⟩
end Ld
end Go.Proofs.YtolkjadklbchfaaDoor
