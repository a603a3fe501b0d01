import Derived.Test.YtolkjadklbchfaaDoorD4
import Derived.Deep.DeepCutAuto
import Derived.Test.YtolkjadklbchfaaDoorK3
/- Load: mathematics of what is read. -/
open Go
namespace Go.Proofs.YtolkjadklbchfaaDoor
namespace Ld
open Pr

theorem rd_pack (l : List Bool) : Sp.rd (Sp.pack l) l.length = l := by
  apply List.ext_getElem?
  intro k
  by_cases hk : k < l.length
  · rw [Sp.rd_at _ _ _ hk]
    unfold Sp.bitOf
    rw [Sp.pack_bit _ _ _ (Nat.mod_lt _ (by omega)), show 8 * (k / 8) + k % 8 = k from by omega]
    simp [hk]
  · rw [List.getElem?_eq_none (by rw [Sp.rd_len]; omega), List.getElem?_eq_none (by omega)]

theorem seal_front (p r : List Nat) : (Sp.sealed p ++ r).take p.length = p := by simp [Sp.sealed]
theorem seal_take (p r : List Nat) : (Sp.sealed p ++ r).take (p.length + 4) = Sp.sealed p := by
  rw [List.take_append_of_le_length (by rw [Sp.sealed_len]; exact Nat.le_refl _), List.take_of_length_le (by rw [Sp.sealed_len]; exact Nat.le_refl _)]
theorem seal_drop (p r : List Nat) : (Sp.sealed p ++ r).drop (p.length + 4) = r := by
  rw [List.drop_append_of_le_length (by rw [Sp.sealed_len]; exact Nat.le_refl _), List.drop_of_length_le (by rw [Sp.sealed_len]; exact Nat.le_refl _), List.nil_append]

/-- What stands behind the head. -/
def rest (vs ms : List Nat) : List Nat := Sp.sealed (Sp.pack (Sp.layers vs)) ++ (Sp.sealed (Sp.pack (Sp.brackets vs)) ++ Sp.sealed (Sp.pack (Sp.marks vs.length ms)))
theorem enc_rest (vs ms : List Nat) : Sp.encode vs ms = Sp.sealed (Sp.head (Sp.widthOf vs) vs.length ms.length) ++ rest vs ms := rfl
theorem enc_drop (vs ms : List Nat) : (Sp.encode vs ms).drop 14 = rest vs ms := by
  rw [enc_rest]
  exact seal_drop (Sp.head (Sp.widthOf vs) vs.length ms.length) _
theorem enc_at (vs ms : List Nat) (k : Nat) (hk : k < 10) : (Sp.encode vs ms)[k]?.getD 0 = (Sp.head (Sp.widthOf vs) vs.length ms.length)[k]?.getD 0 := by
  have : (Sp.encode vs ms)[k]? = (Sp.head (Sp.widthOf vs) vs.length ms.length)[k]? := by
    rw [enc_rest, Sp.sealed, List.append_assoc, List.getElem?_append_left (by simpa [Sp.head] using hk)]
  rw [this]
theorem enc_head {vs ms : List Nat} (h : Fits vs ms) : Sp.headErr (Sp.encode vs ms) = 0 ∧ Sp.hW (Sp.encode vs ms) = Sp.widthOf vs ∧ Sp.hN (Sp.encode vs ms) = vs.length ∧ Sp.hM (Sp.encode vs ms) = ms.length := by
  have hw : Sp.hW (Sp.encode vs ms) = Sp.widthOf vs := by unfold Sp.hW; rw [enc_at _ _ _ (by omega)]; rfl
  have hn : Sp.hN (Sp.encode vs ms) = vs.length := by
    unfold Sp.hN
    rw [enc_at _ _ _ (by omega), enc_at _ _ _ (by omega)]
    show vs.length % 256 + 256 * (vs.length / 256) = _
    omega
  have hm : Sp.hM (Sp.encode vs ms) = ms.length := by
    unfold Sp.hM
    rw [enc_at _ _ _ (by omega), enc_at _ _ _ (by omega)]
    show ms.length % 256 + 256 * (ms.length / 256) = _
    omega
  refine ⟨?_, hw, hn, hm⟩
  have h64 := Sp.widthOf_le vs h.big
  have h200 := h.len
  have hmn := h.mlen
  have hlen : ¬ (Sp.encode vs ms).length < 14 := by
    rw [enc_rest, List.length_append, Sp.sealed_len]
    have : (Sp.head (Sp.widthOf vs) vs.length ms.length).length = 10 := rfl
    omega
  have ht10 : (Sp.encode vs ms).take 10 = Sp.head (Sp.widthOf vs) vs.length ms.length := by
    rw [enc_rest]
    exact seal_front (Sp.head (Sp.widthOf vs) vs.length ms.length) _
  have ht14 : (Sp.encode vs ms).take 14 = Sp.sealed (Sp.head (Sp.widthOf vs) vs.length ms.length) := by
    rw [enc_rest]
    exact seal_take (Sp.head (Sp.widthOf vs) vs.length ms.length) _
  have ht4 : (Sp.encode vs ms).take 4 = [83, 84, 82, 65] := by
    have := congrArg (List.take 4) ht10
    rw [List.take_take, show min 4 10 = 4 from rfl] at this
    rw [this]
    rfl
  have h4 : (Sp.encode vs ms)[4]?.getD 0 = 1 := by rw [enc_at _ _ _ (by omega)]; rfl
  unfold Sp.headErr
  rw [if_neg hlen, if_neg (by simp [ht4]), if_neg (by simp [h4]), if_neg (by rw [ht10, ht14]; simp), if_neg (by rw [hw, hn, hm]; omega)]

/-- The parts of what stands behind the head. -/
theorem rest_parts {vs ms : List Nat} (_h : Fits vs ms) :
    (rest vs ms).length = fr (Sp.widthOf vs) vs.length ms.length 3 ∧
    ((rest vs ms).take (sz (Sp.widthOf vs) vs.length ms.length 0) = Sp.pack (Sp.layers vs) ∧ ((rest vs ms).drop (fr (Sp.widthOf vs) vs.length ms.length 2)).take (sz (Sp.widthOf vs) vs.length ms.length 2) = Sp.pack (Sp.marks vs.length ms)) ∧
    (secOk (Sp.widthOf vs) vs.length ms.length (rest vs ms) 0 = true ∧ secOk (Sp.widthOf vs) vs.length ms.length (rest vs ms) 1 = true ∧ secOk (Sp.widthOf vs) vs.length ms.length (rest vs ms) 2 = true) := by
  have s0 : sz (Sp.widthOf vs) vs.length ms.length 0 = (Sp.pack (Sp.layers vs)).length := by
    rw [Sp.pack_len]
    show (Sp.widthOf vs * vs.length + 7) / 8 = _
    unfold Sp.layers
    rw [Sp.lay_len]
  have s1 : sz (Sp.widthOf vs) vs.length ms.length 1 = (Sp.pack (Sp.brackets vs)).length := by
    rw [Sp.pack_len]
    show (2 * vs.length + 7) / 8 = _
    unfold Sp.brackets
    rw [Sp.brk_len]
    simp
  have s2 : sz (Sp.widthOf vs) vs.length ms.length 2 = (Sp.pack (Sp.marks vs.length ms)).length := by
    rw [Sp.pack_len, marks_mlen]
    rfl
  have f1 : fr (Sp.widthOf vs) vs.length ms.length 1 = (Sp.pack (Sp.layers vs)).length + 4 := by simp [fr, s0]
  have f2 : fr (Sp.widthOf vs) vs.length ms.length 2 = (Sp.pack (Sp.layers vs)).length + 4 + ((Sp.pack (Sp.brackets vs)).length + 4) := by
    show fr _ _ _ 1 + (sz _ _ _ 1 + 4) = _
    rw [f1, s1]
  have f3 : fr (Sp.widthOf vs) vs.length ms.length 3 = (Sp.pack (Sp.layers vs)).length + 4 + ((Sp.pack (Sp.brackets vs)).length + 4) + ((Sp.pack (Sp.marks vs.length ms)).length + 4) := by
    show fr _ _ _ 2 + (sz _ _ _ 2 + 4) = _
    rw [f2, s2]
  have d1 : (rest vs ms).drop ((Sp.pack (Sp.layers vs)).length + 4) = Sp.sealed (Sp.pack (Sp.brackets vs)) ++ Sp.sealed (Sp.pack (Sp.marks vs.length ms)) := seal_drop _ _
  have d2 : (rest vs ms).drop ((Sp.pack (Sp.layers vs)).length + 4 + ((Sp.pack (Sp.brackets vs)).length + 4)) = Sp.sealed (Sp.pack (Sp.marks vs.length ms)) ++ [] := by
    rw [← List.drop_drop, d1, seal_drop, List.append_nil]
  refine ⟨?_, ⟨?_, ?_⟩, ?_, ?_, ?_⟩
  · rw [f3]
    unfold rest
    simp only [List.length_append, Sp.sealed_len]
    omega
  · rw [s0]
    exact seal_front _ _
  · rw [f2, d2, s2]
    exact seal_front _ _
  · unfold secOk
    rw [show fr (Sp.widthOf vs) vs.length ms.length 0 = 0 from rfl, List.drop_zero, s0, decide_eq_true_eq]
    have a := seal_front (Sp.pack (Sp.layers vs)) (Sp.sealed (Sp.pack (Sp.brackets vs)) ++ Sp.sealed (Sp.pack (Sp.marks vs.length ms)))
    have b := seal_take (Sp.pack (Sp.layers vs)) (Sp.sealed (Sp.pack (Sp.brackets vs)) ++ Sp.sealed (Sp.pack (Sp.marks vs.length ms)))
    unfold rest
    rw [a, b]
  · unfold secOk
    rw [f1, d1, s1, decide_eq_true_eq, seal_front, seal_take]
  · unfold secOk
    rw [f2, d2, s2, decide_eq_true_eq, seal_front, seal_take]

/-- The reason for which what stands behind the head is refused; 0: none. -/
def bodyErr (d : List Nat) : Nat :=
  if (d.drop 14).length ≠ fr (Sp.hW d) (Sp.hN d) (Sp.hM d) 3 then 11
  else if secOk (Sp.hW d) (Sp.hN d) (Sp.hM d) (d.drop 14) 0 = true ∧ secOk (Sp.hW d) (Sp.hN d) (Sp.hM d) (d.drop 14) 1 = true ∧ secOk (Sp.hW d) (Sp.hN d) (Sp.hM d) (d.drop 14) 2 = true then 0 else 12
theorem enc_body {vs ms : List Nat} (h : Fits vs ms) : bodyErr (Sp.encode vs ms) = 0 := by
  obtain ⟨_, hw, hn, hm⟩ := enc_head h
  obtain ⟨h1, _, h3⟩ := rest_parts h
  unfold bodyErr
  rw [hw, hn, hm, enc_drop, if_neg (by simp [h1]), if_pos h3]
/-- What is read of an index's own bytes. -/
theorem enc_layers {vs ms us : List Nat} (h : Fits vs ms) (hl : us.length = vs.length) (hlt : ∀ x ∈ us, x < 2 ^ Sp.widthOf vs) (he : Sp.lay us (Sp.widthOf vs) = Sp.rd ((rest vs ms).take (sz (Sp.widthOf vs) vs.length ms.length 0)) (Sp.widthOf vs * vs.length)) : us = vs := by
  rw [(rest_parts h).2.1.1] at he
  have hll : (Sp.layers vs).length = Sp.widthOf vs * vs.length := by unfold Sp.layers; rw [Sp.lay_len]
  rw [← hll, rd_pack] at he
  exact Sp.lay_inj hlt (fun x hx => Sp.width_lt hx) hl he
theorem enc_marks {vs ms : List Nat} (h : Fits vs ms) : Sp.rd (((rest vs ms).drop (fr (Sp.widthOf vs) vs.length ms.length 2)).take (sz (Sp.widthOf vs) vs.length ms.length 2)) (mlen vs.length ms.length) = Sp.marks vs.length ms := by
  rw [(rest_parts h).2.1.2, ← marks_mlen, rd_pack]
theorem marks_inj {n : Nat} {ms ns : List Nat} (h1 : Sp.Rises ms) (h2 : ∀ x ∈ ms, x < n) (g1 : Sp.Rises ns) (g2 : ∀ x ∈ ns, x < n) (hl : ns.length = ms.length) (he : Sp.marks n ns = Sp.marks n ms) : ms = ns := by
  apply List.ext_getElem?
  intro j
  by_cases hj : j < ms.length
  · have hj' : j < ns.length := by omega
    have a1 := Sp.marks_pos n ms h1 h2 j hj
    have a2 := Sp.marks_pos n ns g1 g2 j hj'
    rw [he, hl] at a2
    have a3 := a1.uniq a2
    have b1 := fun b hb => Sp.marks_low n ms j b hj hb
    have b2 := fun b hb => Sp.marks_low n ns j b hj' hb
    rw [hl, he] at b2
    have hlow : ms[j] % 2 ^ Sp.pow n ms.length = ns[j] % 2 ^ Sp.pow n ms.length := by
      apply Nat.eq_of_testBit_eq
      intro b
      rw [Nat.testBit_mod_two_pow, Nat.testBit_mod_two_pow]
      by_cases hb : b < Sp.pow n ms.length
      · have := (b1 b hb).symm.trans (b2 b hb)
        rw [Option.some.inj this]
      · simp [hb]
    have e1 := Nat.div_add_mod ms[j] (2 ^ Sp.pow n ms.length)
    have e2 := Nat.div_add_mod ns[j] (2 ^ Sp.pow n ms.length)
    have hd : ms[j] / 2 ^ Sp.pow n ms.length = ns[j] / 2 ^ Sp.pow n ms.length := by omega
    rw [List.getElem?_eq_getElem hj, List.getElem?_eq_getElem hj', ← e1, ← e2, hd, hlow]
  · rw [List.getElem?_eq_none (by omega), List.getElem?_eq_none (by omega)]
/-- Bytes tell one row of values and marks. -/
theorem enc_inj {vs ms us ns : List Nat} (h : Fits vs ms) (g : Fits us ns) (he : Sp.encode vs ms = Sp.encode us ns) : vs = us ∧ ms = ns := by
  obtain ⟨_, hw, hn, hm⟩ := enc_head h
  obtain ⟨_, gw, gn, gm⟩ := enc_head g
  rw [he, gw] at hw
  rw [he, gn] at hn
  rw [he, gm] at hm
  have hr : rest vs ms = rest us ns := by rw [← enc_drop, ← enc_drop, he]
  have e1 := (rest_parts h).2.1.1
  have e2 := (rest_parts g).2.1.1
  rw [hr, ← hw, ← hn, ← hm, e2] at e1
  have hll : (Sp.layers vs).length = Sp.widthOf vs * vs.length := by unfold Sp.layers; rw [Sp.lay_len]
  have gll : (Sp.layers us).length = Sp.widthOf us * us.length := by unfold Sp.layers; rw [Sp.lay_len]
  have e3 : Sp.layers us = Sp.layers vs := by
    rw [← rd_pack (Sp.layers us), ← rd_pack (Sp.layers vs), e1, gll, hll, hw, hn]
  have hv : vs = us := Sp.lay_inj (k := Sp.widthOf vs) (fun x hx => Sp.width_lt hx) (fun x hx => by rw [← hw]; exact Sp.width_lt hx) hn.symm (by
    unfold Sp.layers at e3
    rw [hw] at e3
    exact e3.symm)
  refine ⟨hv, ?_⟩
  have m1 := enc_marks h
  have m2 := enc_marks g
  rw [hr, ← hw, ← hn, ← hm, m2] at m1
  subst hv
  exact marks_inj h.rises h.mlt g.rises g.mlt hm m1
end Ld
end Go.Proofs.YtolkjadklbchfaaDoor
/- Walks of the program: Load. -/
open Go Go.RowKit
namespace Go.Proofs.YtolkjadklbchfaaDoor
namespace Ld
open Mem Rf Pr

theorem idx_later {lo lo' hi hi' : Nat} {w w' : World} {X : Nat} {vs ms : List Nat} (h : Idx lo hi w X vs ms) (hb : Below w.heap.size w w') (hlo : lo' ≤ lo) (hhi : hi ≤ hi') : Idx lo' hi' w' X vs ms := by
  obtain ⟨w1, a1, w2, a2, w3, a3, hbk, o1, o2, o3⟩ := h.blk
  have hX := (Array.getElem?_eq_some_iff.1 hbk).1
  exact ⟨⟨Nat.le_trans hlo h.at_.1, Nat.lt_of_lt_of_le h.at_.2 hhi⟩, w1, a1, w2, a2, w3, a3, (hb.block X hX).trans hbk, ⟨(o1.row.later hb).base hlo, fun k hk => Nat.lt_of_lt_of_le (o1.lw k hk) hhi, fun k hk => Nat.lt_of_lt_of_le (o1.la k hk) hhi⟩,
    ⟨(o2.row.later hb).base hlo, fun k hk => Nat.lt_of_lt_of_le (o2.lw k hk) hhi, fun k hk => Nat.lt_of_lt_of_le (o2.la k hk) hhi⟩, ⟨(o3.row.later hb).base hlo, fun k hk => Nat.lt_of_lt_of_le (o3.lw k hk) hhi, fun k hk => Nat.lt_of_lt_of_le (o3.la k hk) hhi⟩⟩

/-- What Load tells. -/
def LoadRes (lo : Nat) (w' : World) (d : List Nat) (pv : Option Addr) (f : Nat) : Prop :=
  (pv = none ∧ f = Sp.headErr d ∧ Sp.headErr d ≠ 0) ∨ (pv = none ∧ Sp.headErr d = 0 ∧ f = bodyErr d ∧ bodyErr d ≠ 0) ∨
  (pv = none ∧ Sp.headErr d = 0 ∧ bodyErr d = 0 ∧ f = 13 ∧ ∀ vs ms, Fits vs ms → Sp.encode vs ms ≠ d) ∨
  (∃ X vs ms, pv = some ⟨X, 0, none⟩ ∧ f = 0 ∧ Fits vs ms ∧ Sp.encode vs ms = d ∧ Idx lo w'.heap.size w' X vs ms)

theorem enc_lt (vs ms : List Nat) (h : Fits vs ms) : ∀ x ∈ Sp.encode vs ms, x < 256 := by
  have hw := Sp.widthOf_le vs h.big
  have h1 := h.len
  have h2 := h.mlen
  intro x hx
  unfold Sp.encode at hx
  rcases List.mem_append.1 hx with hx | hx
  · refine Sp.sealed_lt (fun y hy => ?_) x hx
    simp only [Sp.head, List.mem_cons, List.not_mem_nil, or_false] at hy
    omega
  · rcases List.mem_append.1 hx with hx | hx
    · exact Sp.sealed_lt (Sp.pack_lt _) x hx
    · rcases List.mem_append.1 hx with hx | hx
      · exact Sp.sealed_lt (Sp.pack_lt _) x hx
      · exact Sp.sealed_lt (Sp.pack_lt _) x hx
/-- Marks that are told, and fit. -/
theorem upTo_fits2 {n : Nat} {zs : List Int} (h : Sp.upTo n 0 zs = true) : ∃ ns : List Nat, zs = NI ns ∧ (∀ x ∈ ns, x < n) ∧ ns.length ≤ n ∧ Sp.Rises ns := by
  obtain ⟨ns, h1, h2, h3, h4, _⟩ := upTo_nat (n := n) (lo := 0) (by omega) (by omega) h
  refine ⟨ns, h1, h2, ?_, h4⟩
  rw [h1] at h3
  simp [NI] at h3
  omega
theorem upTo_NI {n : Nat} {ms : List Nat} (hr : Sp.Rises ms) (hm : ∀ x ∈ ms, x < n) (lo : Nat) (hlo : ∀ x ∈ ms, lo ≤ x) : Sp.upTo n (lo : Int) (NI ms) = true := by
  induction ms generalizing lo with
  | nil => rfl
  | cons p l ih =>
    have h1 := hlo p (List.mem_cons_self ..)
    have h2 := hm p (List.mem_cons_self ..)
    have hr2 : Sp.Rises l := by
      intro i j hij hj
      have := hr (i + 1) (j + 1) (by omega) (by simpa using hj)
      simpa using this
    have hnx : ∀ x ∈ l, p + 1 ≤ x := by
      intro x hx
      obtain ⟨j, hj, rfl⟩ := List.mem_iff_getElem.1 hx
      have := hr 0 (j + 1) (by omega) (by simpa using hj)
      simp [hj] at this
      omega
    have := ih hr2 (fun x hx => hm x (List.mem_cons_of_mem _ hx)) (p + 1) hnx
    show Sp.upTo n (lo : Int) ((p : Int) :: NI l) = true
    simp only [Sp.upTo, Bool.and_eq_true, decide_eq_true_eq]
    refine ⟨⟨by omega, by omega⟩, ?_⟩
    rw [show ((p : Int) + 1) = ((p + 1 : Nat) : Int) from by simp]
    exact this

set_option maxHeartbeats 4000000 in
theorem load_any (B : Nat) (p : Option Addr) (n c : Nat) (d : List Nat) (w : World) (h : Rd B w (.slice p n c) (By d)) (hB : B ≤ w.heap.size) (hx : ∀ x ∈ d, x < 256) (hn : n ≤ 1000000000000000) (hT : Tab w) (hU : Bru w) :
    Calls Tryd.prog 26 #[.slice p n c] w fun e w' => ∃ (pv : Option Addr) (f : Nat), e = .returned (.tuple #[.pointer pv, .int .i64 (f : Nat)]) ∧ LoadRes w.heap.size w' d pv f ∧ Below w.heap.size w w' := by
  obtain ⟨hl, hlc⟩ := h.len
  rw [By_len] at hl
  have HH := hide (head_any B p n c d w h hB hx hn hT)
  by_cases he : Sp.headErr d = 0
  · have h14 : 14 ≤ n := by
      apply Nat.le_of_not_lt
      intro hlt
      unfold Sp.headErr at he
      rw [if_pos (by omega)] at he
      omega
    have hgood : Sp.hW d ≤ 64 ∧ Sp.hN d ≤ 200 ∧ Sp.hM d ≤ Sp.hN d := by
      unfold Sp.headErr at he
      rw [if_neg (by omega)] at he
      split at he
      · omega
      · split at he
        · omega
        · split at he
          · omega
          · split at he
            · omega
            · omega
    obtain ⟨b, o, rfl, hq1, hq2⟩ := h.at 0 _ (By_at d 0 (by omega))
    clear hq1 hq2
    obtain ⟨W, hWe⟩ : ∃ W, W = Sp.hW d := ⟨_, rfl⟩
    obtain ⟨N, hNe⟩ : ∃ N, N = Sp.hN d := ⟨_, rfl⟩
    obtain ⟨M, hMe⟩ : ∃ M, M = Sp.hM d := ⟨_, rfl⟩
    rw [← hWe, ← hNe, ← hMe] at hgood
    have hd14 : (d.drop 14).length = n - 14 := by simp; omega
    have HBE : Hid (bodyErr d = if n - 14 ≠ fr W N M 3 then 11 else if secOk W N M (d.drop 14) 0 = true ∧ secOk W N M (d.drop 14) 1 = true ∧ secOk W N M (d.drop 14) 2 = true then 0 else 12) := by
      rw [Hid, bodyErr, hWe, hNe, hMe, hd14]
    -- the slice behind the head, as the model has it
    obtain ⟨o2, ho2⟩ : ∃ o2, (if c = 14 then some (⟨b, o, none⟩ : Addr) else some ⟨b, o + 14, none⟩) = some ⟨b, o2, none⟩ ∧ (o2 = o + 14 ∨ c = 14) := by
      by_cases hc : c = 14
      · exact ⟨o, by rw [if_pos hc], .inr hc⟩
      · exact ⟨o + 14, by rw [if_neg hc], .inl rfl⟩
    have HRB : Hid (∀ w' : World, Below w.heap.size w w' → Rd B w' (.slice (some ⟨b, o2, none⟩) (n - 14) (c - 14)) (By (d.drop 14))) := by
      intro w' hb
      rcases ho2.2 with rfl | hc
      · exact rd_back (h.below (hb.mono hB)) h14
      · exact ⟨_, c - 14, by rw [By_len, hd14], by rw [By_len, hd14]; omega, .inl (by omega)⟩
    have hxd : ∀ x ∈ d.drop 14, x < 256 := fun x hm => hx x (List.mem_of_mem_drop hm)
    have HCUT := hide (fun (w' : World) (hb : Below w.heap.size w w') => cut_any B b o2 (n - 14) (c - 14) (d.drop 14) W N M w' (unhide HRB w' hb) (Nat.le_trans hB hb.size) hxd (by omega) hgood.1 hgood.2.1 hgood.2.2 (hT.below hb hT.1))
    have HEQ := hide (fun (q : Option Addr) (m e : Nat) (ys : List Nat) (w' : World) (hr : Rd w'.heap.size w' (.slice q m e) (By ys)) (hy : ∀ x ∈ ys, x < 256) (hb : Below w.heap.size w w') => equal_any w'.heap.size B q (some ⟨b, o, none⟩) m e n c ys d w' hr (h.below (hb.mono hB)) hy hx)
    have HT := hide hT
    have HU := hide hU
    have HXD := hide hxd
    have HE := hide he
    have HLN := hide hl
    have HWN := hide (And.intro hWe (And.intro hNe hMe))
    have hOpt := ho2.1
    have hni : (14 : Int) ≤ (n : Int) := by omega
    have hnci : (n : Int) ≤ (c : Int) := by omega
    obtain ⟨hW, hN, hM⟩ := hgood
    clear h hx hT hU hl hxd hWe hNe hMe ho2 hd14
    rw [he] at HH
    clear he
    go_enter Tryd.func26, Tryd.ntmps26
    go_wp2_with fail
    refine (unhide HH).mono ?_
    rintro e w1 ⟨W', N', M', rfl, hwnm, hb1⟩
    obtain ⟨e1, e2, e3⟩ := hwnm (by first | trivial | rfl)
    rw [← (unhide HWN).1] at e1
    rw [← (unhide HWN).2.1] at e2
    rw [← (unhide HWN).2.2] at e3
    subst e1
    subst e2
    subst e3
    have k0 := box5 w1 #[.int .i64 (W' : Nat), .int .i64 (N' : Nat), .int .i64 (M' : Nat)] 86 0 _ rfl
    have k1 := box5 w1 #[.int .i64 (W' : Nat), .int .i64 (N' : Nat), .int .i64 (M' : Nat)] 86 1 _ rfl
    have k2 := box5 w1 #[.int .i64 (W' : Nat), .int .i64 (N' : Nat), .int .i64 (M' : Nat)] 86 2 _ rfl
    have HB1 := hide (bel_trans hb1 (alloc_bel w1 (.cells #[.int .i64 (W' : Nat), .int .i64 (N' : Nat), .int .i64 (M' : Nat)] 86)))
    clear hwnm hb1 HH
    go_upto_region 4 with fail
    have HD : Hid (Below (w1.alloc (.cells #[.int .i64 (W' : Nat), .int .i64 (N' : Nat), .int .i64 (M' : Nat)] 86)).heap.size (w1.alloc (.cells #[.int .i64 (W' : Nat), .int .i64 (N' : Nat), .int .i64 (M' : Nat)] 86)) (w1.alloc (.cells #[.int .i64 (W' : Nat), .int .i64 (N' : Nat), .int .i64 (M' : Nat)] 86)).drew) := drew_bel _
    have HK : Hid (∀ w' : World, Below (w1.alloc (.cells #[.int .i64 (W' : Nat), .int .i64 (N' : Nat), .int .i64 (M' : Nat)] 86)).heap.size (w1.alloc (.cells #[.int .i64 (W' : Nat), .int .i64 (N' : Nat), .int .i64 (M' : Nat)] 86)) w' → (w'.cell? ⟨w1.heap.size, 0, none⟩ = some (.int .i64 (W' : Nat)) ∧ w'.cell? ⟨w1.heap.size, 1, none⟩ = some (.int .i64 (N' : Nat)) ∧ w'.cell? ⟨w1.heap.size, 2, none⟩ = some (.int .i64 (M' : Nat))) ∧ Below w.heap.size w w') :=
      fun w' hb => ⟨⟨later_cell k0 hb, later_cell k1 hb, later_cell k2 hb⟩, bel_trans (unhide HB1) hb⟩
    go_cut [5, 6] (fun ee pp wx => ∃ (a0 : Option Addr) (m0 e0 : Nat) (a1 : Option Addr) (m1 e1 : Nat) (a2 : Option Addr) (m2 e2 f H : Nat), ee = .int .i64 (f : Nat) ∧ pp = .pointer (some ⟨H, 0, none⟩) ∧ CutRes b o2 (n - 14) (c - 14) W' N' M' (d.drop 14) (.slice a0 m0 e0) (.slice a2 m2 e2) f ∧ (wx.cell? ⟨H, 0, none⟩ = some (.slice a0 m0 e0) ∧ wx.cell? ⟨H, 1, none⟩ = some (.slice a1 m1 e1) ∧ wx.cell? ⟨H, 2, none⟩ = some (.slice a2 m2 e2)) ∧
      (wx.cell? ⟨w1.heap.size, 0, none⟩ = some (.int .i64 (W' : Nat)) ∧ wx.cell? ⟨w1.heap.size, 1, none⟩ = some (.int .i64 (N' : Nat)) ∧ wx.cell? ⟨w1.heap.size, 2, none⟩ = some (.int .i64 (M' : Nat))) ∧ Below w.heap.size w wx)
    case first =>
      have HDA : Hid (Below (w1.alloc (.cells #[.int .i64 (W' : Nat), .int .i64 (N' : Nat), .int .i64 (M' : Nat)] 86)).heap.size (w1.alloc (.cells #[.int .i64 (W' : Nat), .int .i64 (N' : Nat), .int .i64 (M' : Nat)] 86)) ((w1.alloc (.cells #[.int .i64 (W' : Nat), .int .i64 (N' : Nat), .int .i64 (M' : Nat)] 86)).alloc (.cells #[.slice none 0 0, .slice none 0 0, .slice none 0 0] 89)).drew) := (alloc_bel _ _).drew
      go_region_held3 (fun w' => w'.cell? ⟨w1.heap.size, 0, none⟩ = some (.int .i64 (W' : Nat)) ∧ w'.cell? ⟨w1.heap.size, 1, none⟩ = some (.int .i64 (N' : Nat)) ∧ w'.cell? ⟨w1.heap.size, 2, none⟩ = some (.int .i64 (M' : Nat))) (go_keep)
        (first
        | (go_at_call 49; refine (unhide HCUT _ (unhide HK _ (unhide HD)).2).mono ?_; rintro e w3 ⟨a0, m0, e0, a1, m1, e1, a2, m2, e2, f, rfl, hcr, hb3⟩; have hd := bel_trans (unhide HD) hb3; obtain ⟨⟨k0, k1, k2⟩, hbw⟩ := unhide HK _ hd; have HCR := hide hcr; have HD := hide hd; clear hcr hb3 hd hbw HDA)
        | (go_at_call 49; refine (unhide HCUT _ (unhide HK _ (unhide HDA)).2).mono ?_; rintro e w3 ⟨a0, m0, e0, a1, m1, e1, a2, m2, e2, f, rfl, hcr, hb3⟩; have hd := bel_trans (unhide HDA) hb3; obtain ⟨⟨k0, k1, k2⟩, hbw⟩ := unhide HK _ hd; have HCR := hide hcr; have hblk : w3.heap[w1.heap.size + 1]? = some (.cells #[.slice none 0 0, .slice none 0 0, .slice none 0 0] 89 (0, 0)) := (hb3.block _ (by simp [World.drew])).trans (blk1 w1 _ _); have g0 : w3.cell? ⟨w1.heap.size + 1, 0, none⟩ = some (.slice none 0 0) := (by rw [cell_of_row _ _ _ _ _ (0, 0) hblk]; rfl); have g1 : w3.cell? ⟨w1.heap.size + 1, 1, none⟩ = some (.slice none 0 0) := (by rw [cell_of_row _ _ _ _ _ (0, 0) hblk]; rfl); have g2 : w3.cell? ⟨w1.heap.size + 1, 2, none⟩ = some (.slice none 0 0) := (by rw [cell_of_row _ _ _ _ _ (0, 0) hblk]; rfl); have gf : ∀ j, w3.frozen? ⟨w1.heap.size + 1, j, none⟩ = false := (fun j => frozen_of_row _ _ _ _ _ hblk); have HBW := hide hbw; clear hcr hb3 hd hbw HDA hblk))
      all_goals
        go_wp2
        go_meet
      all_goals first
        | (have hs3 := set3 g0 g1 g2 (unhide HBW) (by have := (unhide HB1).size; simp at this; omega) (.slice a0 m0 e0) (.slice a1 m1 e1) (.slice a2 m2 e2)
           refine ⟨a0, m0, e0, a1, m1, e1, a2, m2, e2, f, w1.heap.size + 1, rfl, rfl, unhide HCR, ⟨hs3.1, hs3.2.1, hs3.2.2.1⟩, ⟨?_, ?_, ?_⟩, hs3.2.2.2⟩
           · rw [World.cell?_setCell_other _ _ _ _ (by simp), World.cell?_setCell_other _ _ _ _ (by simp), World.cell?_setCell_other _ _ _ _ (by simp)]; exact k0
           · rw [World.cell?_setCell_other _ _ _ _ (by simp), World.cell?_setCell_other _ _ _ _ (by simp), World.cell?_setCell_other _ _ _ _ (by simp)]; exact k1
           · rw [World.cell?_setCell_other _ _ _ _ (by simp), World.cell?_setCell_other _ _ _ _ (by simp), World.cell?_setCell_other _ _ _ _ (by simp)]; exact k2)
        | (have hd2 := bel_trans (unhide HD) (alloc_bel w3 (.cells #[.slice a0 m0 e0, .slice a1 m1 e1, .slice a2 m2 e2] 89))
           refine ⟨a0, m0, e0, a1, m1, e1, a2, m2, e2, f, w3.heap.size, rfl, rfl, unhide HCR, ⟨?_, ?_, ?_⟩, unhide HK _ hd2⟩
           · exact box5 w3 _ 89 0 _ rfl
           · exact box5 w3 _ 89 1 _ rfl
           · exact box5 w3 _ 89 2 _ rfl)
    case rest =>
      obtain ⟨a0, m0, e0, a1, m1, e1, a2, m2, e2, f, H, rfl, rfl, hcr, ⟨p0, p1, p2⟩, ⟨k0', k1', k2'⟩, hbw⟩ := hcut
      clear HD HK k0 k1 k2 HCUT HB1
      rcases hcr with ⟨rfl, hne⟩ | ⟨rfl, hfr, hno⟩ | ⟨rfl, hfr, hok, hP0, hP2⟩
      · have HR : Hid (bodyErr d = 11) := by rw [Hid, unhide HBE, if_pos hne]
        have HB := hide hbw
        clear hne hbw
        go_wp2
        go_ret2
        exact ⟨none, 11, rfl, .inr (.inl ⟨rfl, unhide HE, (unhide HR).symm, by rw [unhide HR]; omega⟩), unhide HB⟩
      · have HR : Hid (bodyErr d = 12) := by rw [Hid, unhide HBE, if_neg (by simpa using hfr), if_neg hno]
        have HB := hide hbw
        clear hfr hno hbw
        go_wp2
        go_ret2
        exact ⟨none, 12, rfl, .inr (.inl ⟨rfl, unhide HE, (unhide HR).symm, by rw [unhide HR]; omega⟩), unhide HB⟩
      · have HR : Hid (bodyErr d = 0) := by rw [Hid, unhide HBE, if_neg (by simpa using hfr), if_pos hok]
        simp only [Value.slice.injEq] at hP0 hP2
        obtain ⟨rfl, rfl, rfl⟩ := hP0
        obtain ⟨rfl, rfl, rfl⟩ := hP2
        have hl0 : ((d.drop 14).take (sz W' N' M' 0)).length = sz W' N' M' 0 := by
          have : sz W' N' M' 0 + 4 ≤ fr W' N' M' 3 := by simp [fr]; omega
          rw [List.length_take]
          have h1 : (d.drop 14).length = n - 14 := by have := unhide HLN; simp; omega
          omega
        have hl2 : (((d.drop 14).drop (fr W' N' M' 2)).take (sz W' N' M' 2)).length = sz W' N' M' 2 := by
          have : fr W' N' M' 3 = fr W' N' M' 2 + (sz W' N' M' 2 + 4) := rfl
          rw [List.length_take, List.length_drop]
          have h1 : (d.drop 14).length = n - 14 := by have := unhide HLN; simp; omega
          omega
        have HR0 : Hid (∀ w' : World, Below w.heap.size w w' → Rd B w' (.slice (some ⟨b, o2, none⟩) ((d.drop 14).take (sz W' N' M' 0)).length (c - 14)) (By ((d.drop 14).take (sz W' N' M' 0)))) := by
          intro w' hb
          rw [hl0]
          exact rd_front (unhide HRB w' hb) (by have : sz W' N' M' 0 + 4 ≤ fr W' N' M' 3 := by { simp [fr]; omega }; omega)
        have HR2 : Hid (∀ w' : World, Below w.heap.size w w' → Rd B w' (.slice (some ⟨b, o2 + fr W' N' M' 2, none⟩) (((d.drop 14).drop (fr W' N' M' 2)).take (sz W' N' M' 2)).length (c - 14 - fr W' N' M' 2)) (By (((d.drop 14).drop (fr W' N' M' 2)).take (sz W' N' M' 2)))) := by
          intro w' hb
          have : fr W' N' M' 3 = fr W' N' M' 2 + (sz W' N' M' 2 + 4) := rfl
          rw [hl2]
          exact rd_front (rd_back (unhide HRB w' hb) (by omega)) (by omega)
        have hx0 : ∀ x ∈ (d.drop 14).take (sz W' N' M' 0), x < 256 := fun x hm => unhide HXD x (List.mem_of_mem_take hm)
        have hx2 : ∀ x ∈ ((d.drop 14).drop (fr W' N' M' 2)).take (sz W' N' M' 2), x < 256 := fun x hm => unhide HXD x (List.mem_of_mem_drop (List.mem_of_mem_take hm))
        have HLR := hide (fun (w' : World) (hb : Below w.heap.size w w') => lread_any _ B _ W' N' _ w' (unhide HR0 w' hb) (Nat.le_trans hB hb.size) hx0 hW hN hl0)
        have HMR := hide (fun (w' : World) (hb : Below w.heap.size w w') => mread_any _ B _ M' N' _ w' (unhide HR2 w' hb) (Nat.le_trans hB hb.size) hx2 (by omega) hN hl2)
        rw [hl0] at HLR
        rw [hl2] at HMR
        have HC : Hid (∀ w' : World, Below wc.heap.size wc w' → (w'.cell? ⟨H, 0, none⟩ = some (.slice (some ⟨b, o2, none⟩) (sz W' N' M' 0) (c - 14)) ∧ w'.cell? ⟨H, 2, none⟩ = some (.slice (some ⟨b, o2 + fr W' N' M' 2, none⟩) (sz W' N' M' 2) (c - 14 - fr W' N' M' 2))) ∧ (w'.cell? ⟨w1.heap.size, 0, none⟩ = some (.int .i64 (W' : Nat)) ∧ w'.cell? ⟨w1.heap.size, 1, none⟩ = some (.int .i64 (N' : Nat)) ∧ w'.cell? ⟨w1.heap.size, 2, none⟩ = some (.int .i64 (M' : Nat)))) :=
          fun w' hb => ⟨⟨later_cell p0 hb, later_cell p2 hb⟩, later_cell k0' hb, later_cell k1' hb, later_cell k2' hb⟩
        have HBW := hide hbw
        have HFR := hide (And.intro hfr hok)
        -- what an index of these bytes would be
        have HKEY : Hid (∀ (us : List Nat) (zs : List Int), us.length = N' → (∀ x ∈ us, x < 2 ^ W') → Sp.lay us W' = Sp.rd ((d.drop 14).take (sz W' N' M' 0)) (W' * N') → (∀ ms : List Nat, Sp.Rises ms → (∀ x ∈ ms, x < N') → ms.length = M' → Sp.marks N' ms = Sp.rd (((d.drop 14).drop (fr W' N' M' 2)).take (sz W' N' M' 2)) (mlen N' M') → zs = NI ms) →
            ∀ vs ms, Fits vs ms → Sp.encode vs ms = d → us = vs ∧ zs = NI ms) := by
          intro us zs h1 h2 h3 h4 vs ms hf hen
          obtain ⟨_, q1, q2, q3⟩ := enc_head hf
          obtain ⟨g1, g2, g3⟩ := unhide HWN
          rw [hen, ← g1] at q1
          rw [hen, ← g2] at q2
          rw [hen, ← g3] at q3
          have hre : d.drop 14 = rest vs ms := by rw [← hen, enc_drop]
          subst q1
          subst q2
          subst q3
          rw [hre] at h3 h4
          exact ⟨enc_layers hf h1 h2 h3, h4 ms hf.rises hf.mlt rfl (enc_marks hf).symm⟩
        clear hl0 hl2 hx0 hx2 hfr hok HRB HBE hOpt hbw p1
        generalize (d.drop 14).take (sz W' N' M' 0) = bs0 at *
        generalize ((d.drop 14).drop (fr W' N' M' 2)).take (sz W' N' M' 2) = bs2 at *
        generalize sz W' N' M' 0 = z0 at *
        generalize sz W' N' M' 2 = z2 at *
        generalize fr W' N' M' 2 = f2 at *
        clear HR0 HR2
        go_wp2_with fail
        refine (unhide HLR wc (unhide HBW)).mono ?_
        rintro e w4 ⟨yw, ya, us, rfl, hul, hult, hlay, hly, hb4⟩
        have hv := values_any _ yw ya us W' w4 hly hult
        rw [hul] at hv
        have HV := hide hv
        obtain ⟨pw, cw, pa, ca, rfl, rfl⟩ := hly.row.form
        have HUS := hide (And.intro hul (And.intro hult hlay))
        obtain ⟨⟨p0, p2⟩, k0', k1', k2'⟩ := unhide HC w4 hb4
        have HB4 := hide hb4
        clear hv hul hult hlay hly hb4 HLR
        generalize (Sp.lay us W').length = lenL at *
        go_wp2_with fail
        refine (unhide HV).mono ?_
        rintro e w5 ⟨v5, rfl, ho5, hb5⟩
        obtain ⟨pv5, cv5, rfl, _⟩ := own_slice ho5
        have hb45 := bel_trans (unhide HB4) hb5
        clear p0 p2 k0' k1' k2'
        obtain ⟨⟨p0, p2⟩, k0', k1', k2'⟩ := unhide HC w5 hb45
        have HMR2 := hide (unhide HMR w5 (bel_trans (unhide HBW) hb45))
        have HV5 := hide ho5
        have HB45 := hide hb45
        clear ho5 hb5 hb45 HMR HV HB4
        go_wp2_with fail
        refine (unhide HMR2).mono ?_
        rintro e w6 ⟨yw, ya, rfl, hrow, hb6⟩
        have hb46 := bel_trans (unhide HB45) hb6
        have HP := hide (places_any _ yw ya _ N' M' w6 hrow (by rw [Sp.rd_len]) hN hM ((unhide HU).below (bel_trans (unhide HBW) hb46) (unhide HU).1))
        obtain ⟨pw2, cw2, pa2, ca2, rfl, rfl⟩ := hrow.form
        have HV6 := hide (own_later (unhide HV5) hb6)
        have HB46 := hide hb46
        clear hrow hb6 hb46 HMR2 HV5 HB45 p0 p2 k0' k1' k2'
        go_wp2_with fail
        refine (unhide HP).mono ?_
        rintro e w7 ⟨v7, zs, rfl, hzl, hzs, ho7, hb7⟩
        obtain ⟨pv7, cv7, rfl, _⟩ := own_slice ho7
        have HV7 := hide (own_later (unhide HV6) hb7)
        have HZ7 := hide ho7
        have HB7 := hide (bel_trans (unhide HBW) (bel_trans (unhide HB46) hb7))
        have HZS := hide (And.intro hzl hzs)
        clear hzl hzs ho7 hb7 HP HV6 HB46 HC HBW
        by_cases hup : Sp.upTo N' 0 zs = true
        · obtain ⟨ns, hzn, hnlt, hnl, hnr⟩ := upTo_fits2 hup
          subst hzn
          have hnsl : ns.length = M' := by have := (unhide HZS).1; simpa [NI] using this
          have hfit : Fits us ns := ⟨fun x hm => Nat.lt_of_lt_of_le ((unhide HUS).2.1 x hm) (Nat.le_trans (Nat.pow_le_pow_right (by omega) hW) (by decide)), by rw [(unhide HUS).1]; exact hnlt, by rw [(unhide HUS).1]; exact hN, by rw [(unhide HUS).1]; exact hnl, hnr⟩
          have hrv := Rd.owned (unhide HV7)
          have hrz := Rd.owned (unhide HZ7)
          have HBG := hide (build_good pv5 N' cv5 us pv7 w7.heap.size M' cv7 ns w7 hrv hrz (Nat.le_refl _) hfit hup)
          have HFIT := hide hfit
          clear hrv hrz hfit hup hnlt hnl hnr hnsl
          go_wp2_with fail
          refine (unhide HBG).mono ?_
          rintro e w8 ⟨X, rfl, hidx, hb8⟩
          have hb08 := bel_trans (unhide HB7) hb8
          have HEN := hide (encode_any _ _ X us ns w8 hidx (unhide HFIT) ((unhide HT).below hb08 (unhide HT).1))
          have HIX := hide (And.intro hidx hb08)
          have HS7 := hide (unhide HB7).size
          clear hidx hb8 hb08 HBG HV7 HZ7
          go_wp2_with fail
          refine (unhide HEN).mono ?_
          rintro e w9 ⟨v9, rfl, ho9, hb9⟩
          obtain ⟨pv9, cv9, rfl, _⟩ := own_slice ho9
          have hlt9 : ∀ x ∈ Sp.encode us ns, x < 256 := enc_lt _ _ (unhide HFIT)
          have hb09 := bel_trans (unhide HIX).2 hb9
          have HE9 := hide (unhide HEQ pv9 _ cv9 (Sp.encode us ns) w9 (Rd.owned ho9) hlt9 hb09)
          have HI9 := hide (idx_later (lo' := w.heap.size) (hi' := w9.heap.size) (unhide HIX).1 hb9 (unhide HS7) hb9.size)
          have HB09 := hide hb09
          clear ho9 hb9 hlt9 hb09 HEN HIX HS7
          go_wp2_with fail
          refine at_same (unhide HE9) ?_
          by_cases heq : Sp.encode us ns = d
          · rw [decide_eq_true heq]
            have HQ := hide heq
            clear heq
            go_wp2
            go_ret2
            exact ⟨some ⟨X, 0, none⟩, 0, rfl, .inr (.inr (.inr ⟨X, us, ns, rfl, rfl, unhide HFIT, unhide HQ, unhide HI9⟩)), unhide HB09⟩
          · rw [decide_eq_false heq]
            have HNO : Hid (∀ vs ms, Fits vs ms → Sp.encode vs ms ≠ d) := by
              intro vs ms hf hen
              obtain ⟨g1, g2⟩ := unhide HKEY us (NI ns) (unhide HUS).1 (unhide HUS).2.1 (unhide HUS).2.2 (unhide HZS).2 vs ms hf hen
              have : ns = ms := by
                have := congrArg (List.map Int.toNat) g2
                simpa [NI, Function.comp_def] using this
              rw [g1, this] at heq
              exact heq hen
            clear heq
            go_wp2
            go_ret2
            exact ⟨none, 13, rfl, .inr (.inr (.inl ⟨rfl, unhide HE, unhide HR, rfl, unhide HNO⟩)), unhide HB09⟩
        · have hupf : Sp.upTo N' 0 zs = false := by simpa using hup
          have HBB := hide (build_bad pv5 N' cv5 pv7 w7.heap.size M' cv7 zs w7 (Rd.owned (unhide HZ7)) (by omega) hN hupf)
          have HNO : Hid (∀ vs ms, Fits vs ms → Sp.encode vs ms ≠ d) := by
            intro vs ms hf hen
            obtain ⟨g1, g2⟩ := unhide HKEY us zs (unhide HUS).1 (unhide HUS).2.1 (unhide HUS).2.2 (unhide HZS).2 vs ms hf hen
            have := upTo_NI (n := N') hf.rises (by rw [← (unhide HUS).1, g1]; exact hf.mlt) 0 (fun x _ => Nat.zero_le x)
            rw [g2] at hupf
            rw [show ((0 : Nat) : Int) = 0 from rfl, hupf] at this
            exact absurd this (by simp)
          clear hup hupf
          go_wp2_with fail
          refine at_same (unhide HBB) ?_
          go_wp2
          go_ret2
          exact ⟨none, 13, rfl, .inr (.inr (.inl ⟨rfl, unhide HE, unhide HR, rfl, unhide HNO⟩)), unhide HB7⟩
  · have HB : Hid (Sp.headErr d ≠ 0) := he
    generalize hq : Sp.headErr d = q at *
    have HQ := hide hq
    have hq0 : ((q : Int) == 0) = false := by rw [beq_eq_false_iff_ne]; omega
    clear h hx hT hU hl he hq
    go_enter Tryd.func26, Tryd.ntmps26
    go_wp2_with fail
    refine (unhide HH).mono ?_
    rintro e w1 ⟨W', N', M', rfl, _, hb1⟩
    have HB1 := hide hb1
    clear hb1 HH
    go_wp2
    go_ret2
    exact ⟨none, q, rfl, .inl ⟨rfl, (unhide HQ).symm, by rw [unhide HQ]; exact unhide HB⟩, bel_trans (unhide HB1) (alloc_bel _ _)⟩
end Ld
end Go.Proofs.YtolkjadklbchfaaDoor
/- Walks of the keeps: encoded, copiedBytes, loads. -/
open Go Go.RowKit
namespace Go.Proofs.YtolkjadklbchfaaDoor
namespace Kp
open Mem Rf Pr Ld

theorem idx_set {lo hi : Nat} {w : World} {X : Nat} {vs ms : List Nat} (h : Idx lo hi w X vs ms) {H : Nat} (hH : H < lo) (j : Nat) (v : Value) : Idx lo hi (w.setCell ⟨H, j, none⟩ v) X vs ms := by
  obtain ⟨w1, a1, w2, a2, w3, a3, hbk, o1, o2, o3⟩ := h.blk
  have hx := h.at_.1
  have key : ∀ {yw ya : Value} {l : List Bool}, RowIn lo hi w yw ya l → RowIn lo hi (w.setCell ⟨H, j, none⟩ v) yw ya l := fun r =>
    ⟨⟨own_setCell r.row.ow (fun g hg => by have := (r.row.ow.lt g hg).1; show g ≠ H; omega) v, own_setCell r.row.oa (fun g hg => by have := (r.row.oa.lt g hg).1; show g ≠ H; omega) v⟩, r.lw, r.la⟩
  exact ⟨h.at_, w1, a1, w2, a2, w3, a3, (Below.heap_setCell _ _ _ _ (by show X ≠ H; omega)).trans hbk, key o1, key o2, key o3⟩

theorem enc_len_small {vs ms : List Nat} (h : Fits vs ms) : (Sp.encode vs ms).length ≤ 3000 ∧ 26 ≤ (Sp.encode vs ms).length := by
  have hr := (rest_parts h).1
  have hw := Sp.widthOf_le vs h.big
  have s0 := sz_small hw h.len h.mlen 0
  have h1 := wn_small hw h.len
  have h2 := mlen_small (n := vs.length) (m := ms.length) h.len (Nat.le_trans h.mlen h.len)
  have hn := h.len
  have f3 : fr (Sp.widthOf vs) vs.length ms.length 3 = (Sp.widthOf vs * vs.length + 7) / 8 + 4 + ((2 * vs.length + 7) / 8 + 4) + ((mlen vs.length ms.length + 7) / 8 + 4) := by simp [fr, sz]
  have hl : (Sp.encode vs ms).length = 14 + (rest vs ms).length := by
    rw [enc_rest, List.length_append, Sp.sealed_len]
    rfl
  omega

set_option maxHeartbeats 1000000 in
theorem kcopiedBytes_any (p : Option Addr) (B n c : Nat) (xs : List Nat) (w : World) (hr : Rd B w (.slice p n c) (By xs)) (hn : n ≤ 100000000000000) :
    Calls Tryd.prog 29 #[.slice p n c] w fun e w' => ∃ v, e = .returned v ∧ w'.ownsRow w.heap.size 5 1 v xs.length (By xs) ∧ Below w.heap.size w w' := by
  obtain ⟨hl, hlc⟩ := hr.len
  rw [By_len] at hl
  have HR := hide hr
  have HL := hide hl
  clear hl hr
  go_enter Tryd.func29, Tryd.ntmps29
  go_wp2_with (at_builtin; refine wpList_app _ rfl (.tmp 4) (.tmp 5) 45 rfl w.heap.size 5 (.int .u8 0) 1 Tryd.underlying45 Ty.u8 rfl (.slice none 0 0) _ _ rfl (World.ownsRow_nil _ _ _ _) _ _ rfl ⟨_, unhide HR⟩ (one_By _) (by rw [By_len, ← unhide HL]; unfold maxLen; omega) (by rw [By_len, ← unhide HL]; omega) (Nat.le_refl _) ?_; intro v1 w1 hown1 hg1 hb1)
  go_ret
  refine ⟨v1, rfl, ?_, ?_⟩
  · rw [By_len] at hown1
    simpa using hown1
  · exact (Below.refl _ _).grown hg1 (Nat.le_refl _) (by intro k hk; cases hk)

set_option maxHeartbeats 1000000 in
theorem kbuilt_idx (B : Nat) (pv : Option Addr) (n cv : Nat) (vs : List Nat) (pm : Option Addr) (m cm : Nat) (ms : List Nat) (w : World) (hv : Rd B w (.slice pv n cv) (U64 vs)) (hm : Rd B w (.slice pm m cm) (I64 (NI ms))) (hB : B ≤ w.heap.size) (hf : Fits vs ms) (hT : Bru w) :
    Calls Tryd.prog 12 #[.agg #[.slice pv n cv, .slice pm m cm]] w fun e w' => ∃ X, e = .returned (.tuple #[.pointer (some ⟨X, 0, none⟩), .bool true]) ∧ Idx w.heap.size w'.heap.size w' X vs ms ∧ Below w.heap.size w w' := by
  obtain ⟨hl, _⟩ := hv.len
  obtain ⟨hl2, _⟩ := hm.len
  rw [U64_len] at hl
  rw [NI_len] at hl2
  have hn : n ≤ 200 := by rw [hl]; exact hf.len
  have hm2 : m ≤ 200 := by rw [hl2]; exact Nat.le_trans hf.mlen hf.len
  have HC1 := hide (fun (w' : World) (hb : Below w.heap.size w w') => kcopied_any pv B n cv vs w' (hv.below (hb.mono hB)) (by omega))
  have HC2 := hide (fun (w' : World) (hb : Below w.heap.size w w') => kcopiedInts_any pm B m cm (NI ms) w' (hm.below (hb.mono hB)) (by omega))
  have hNI : (NI ms).length = ms.length := by simp [NI]
  have hok : Sp.upTo vs.length 0 (NI ms) = true := upTo_fits 0 hf.rises hf.mlt (fun x _ => Nat.zero_le x)
  have HB := hide (fun (q1 : Option Addr) (d1 : Nat) (q2 : Option Addr) (d2 : Nat) (w' : World) (h1 : Rd w'.heap.size w' (.slice q1 vs.length d1) (U64 vs)) (h2 : Rd w'.heap.size w' (.slice q2 ms.length d2) (I64 (NI ms))) =>
    build_good q1 vs.length d1 vs q2 w'.heap.size ms.length d2 ms w' h1 h2 (Nat.le_refl _) hf hok)
  have HF := hide hf
  have HT := hide hT
  have HBX : Hid (∀ (w' : World), Below (w.alloc (.cells #[.slice pv n cv, .slice pm m cm] 25)).heap.size (w.alloc (.cells #[.slice pv n cv, .slice pm m cm] 25)) w' → (w'.cell? ⟨w.heap.size, 0, none⟩ = some (.slice pv n cv) ∧ w'.cell? ⟨w.heap.size, 1, none⟩ = some (.slice pm m cm)) ∧ Below w.heap.size w w') :=
    fun w' hb => ⟨⟨later_cell (box5 w _ _ 0 _ rfl) hb, later_cell (box5 w _ _ 1 _ rfl) hb⟩, bel_trans (alloc_bel _ _) hb⟩
  have HD : Hid (Below (w.alloc (.cells #[.slice pv n cv, .slice pm m cm] 25)).heap.size (w.alloc (.cells #[.slice pv n cv, .slice pm m cm] 25)) (w.alloc (.cells #[.slice pv n cv, .slice pm m cm] 25)).drew) := drew_bel _
  rw [hNI] at HC2
  clear hv hm hf hT hl hl2 hNI hok
  go_enter Tryd.func12, Tryd.ntmps12
  go_wp2_with fail
  go_region_held3 (fun w' => w'.cell? ⟨w.heap.size, 0, none⟩ = some (.slice pv n cv) ∧ w'.cell? ⟨w.heap.size, 1, none⟩ = some (.slice pm m cm)) (go_keep)
    (first
    | (go_at_call 31; refine (unhide HC1 _ (unhide HBX _ (unhide HD)).2).mono ?_; rintro e wa ⟨v1, rfl, ho1, hba⟩; obtain ⟨q1, d1, rfl, _⟩ := own_slice ho1; (try have R2 := hide (((unhide R2).below hba).mono hba.size)); have R1 := hide (Rd.owned ho1); have hd := bel_trans (unhide HD) hba; obtain ⟨⟨k0, k1⟩, _⟩ := unhide HBX _ hd; have HD := hide hd; clear ho1 hba hd)
    | (go_at_call 33; refine (unhide HC2 _ (unhide HBX _ (unhide HD)).2).mono ?_; rintro e wa ⟨v2, rfl, ho2, hba⟩; obtain ⟨q2, d2, rfl, _⟩ := own_slice ho2; (try have R1 := hide (((unhide R1).below hba).mono hba.size)); have R2 := hide (Rd.owned ho2); have hd := bel_trans (unhide HD) hba; obtain ⟨⟨k0, k1⟩, _⟩ := unhide HBX _ hd; have HD := hide hd; clear ho2 hba hd)
    | (go_at_call 30; refine (unhide HB _ _ _ _ _ (unhide R1) (unhide R2)).mono ?_; rintro e wb ⟨X, rfl, hidx, hbb⟩; have HS := hide (unhide HBX _ (unhide HD)).2.size; have hd := bel_trans (unhide HD) hbb; obtain ⟨⟨k0, k1⟩, hbw⟩ := unhide HBX _ hd; have HQ := hide (And.intro hidx hbw); clear hidx hbb hd hbw))
  all_goals
    go_wp2
    go_ret2
    exact ⟨X, rfl, idx_later (unhide HQ).1 (Below.refl _ _) (unhide HS) (Nat.le_refl _), (unhide HQ).2⟩

/-- An index's own bytes are loaded. -/
theorem load_own (B : Nat) (p : Option Addr) (n c : Nat) (vs ms : List Nat) (w : World) (h : Rd B w (.slice p n c) (By (Sp.encode vs ms))) (hB : B ≤ w.heap.size) (hf : Fits vs ms) (hT : Tab w) (hU : Bru w) :
    Calls Tryd.prog 26 #[.slice p n c] w fun e w' => ∃ X, e = .returned (.tuple #[.pointer (some ⟨X, 0, none⟩), .int .i64 0]) ∧ Pr.Ask w' X vs ms ∧ Idx w.heap.size w'.heap.size w' X vs ms ∧ Below w.heap.size w w' := by
  have hn : n ≤ 1000000000000000 := by
    have := h.len.1
    rw [By_len] at this
    have := (enc_len_small hf).1
    omega
  refine (load_any B p n c _ w h hB (enc_lt _ _ hf) hn hT hU).mono ?_
  rintro e w' ⟨pv, f, rfl, hres, hb⟩
  rcases hres with ⟨_, _, h3⟩ | ⟨_, _, _, h3⟩ | ⟨_, _, _, _, h3⟩ | ⟨X, us, ns, rfl, rfl, hf2, he, hidx⟩
  · exact absurd (enc_head hf).1 h3
  · exact absurd (enc_body hf) h3
  · exact absurd rfl (h3 vs ms hf)
  · obtain ⟨rfl, rfl⟩ := enc_inj hf hf2 he.symm
    exact ⟨X, rfl, ⟨⟨_, _, hidx⟩, hf, hU.below hb hU.1⟩, hidx, hb⟩

set_option maxHeartbeats 1000000 in
theorem kloads_own (B : Nat) (p : Option Addr) (n c : Nat) (vs ms : List Nat) (w : World) (h : Rd B w (.slice p n c) (By (Sp.encode vs ms))) (hf : Fits vs ms) (hT : Tab w) (hU : Bru w) :
    Calls Tryd.prog 24 #[.slice p n c] w fun e w' => ∃ X, e = .returned (.tuple #[.pointer (some ⟨X, 0, none⟩), .bool true]) ∧ Pr.Ask w' X vs ms ∧ Below w.heap.size w w' := by
  have hn : n ≤ 1000000000 := by
    have := h.len.1
    rw [By_len] at this
    have := (enc_len_small hf).1
    omega
  have HC := hide (kcopiedBytes_any p B n c _ w h (by omega))
  have HL := hide (fun (q : Option Addr) (m e : Nat) (w' : World) (hr : Rd w'.heap.size w' (.slice q m e) (By (Sp.encode vs ms))) (hb : Below w.heap.size w w') => load_own w'.heap.size q m e vs ms w' hr (Nat.le_refl _) hf (hT.below hb hT.1) (hU.below hb hU.1))
  clear h hf hT hU
  go_enter Tryd.func24, Tryd.ntmps24
  go_wp2_with fail
  refine (unhide HC).mono ?_
  rintro e w1 ⟨v1, rfl, ho1, hb1⟩
  obtain ⟨q1, d1, rfl, _⟩ := own_slice ho1
  have HL1 := hide (unhide HL _ _ _ w1 (Rd.owned ho1) hb1)
  have HB1 := hide hb1
  clear ho1 hb1 HL HC
  go_wp2_with fail
  refine (unhide HL1).mono ?_
  rintro e w2 ⟨X, rfl, hask, _, hb2⟩
  have HA := hide (And.intro hask (bel_trans (unhide HB1) hb2))
  clear hask hb2
  go_wp2
  go_ret2
  exact ⟨X, rfl, unhide HA⟩

set_option maxHeartbeats 2000000 in
set_option maxRecDepth 20000 in
theorem kencoded_any (B : Nat) (p : Option Addr) (n c : Nat) (xs : List Nat) (q : Option Addr) (m d : Nat) (ys : List Int) (few : Int) (w : World) (hv : Rd B w (.slice p n c) (U64 xs)) (hy : Rd B w (.slice q m d) (I64 ys)) (hB : B ≤ w.heap.size) (hbig : ∀ x ∈ xs, x < 18446744073709551616) (hn : n ≤ 17592186044000)
    (hfew : -9223372036854775808 ≤ few ∧ few ≤ 9223372036854775807) (hT : Tab w) (hU : Bru w) :
    Calls Tryd.prog 23 #[.slice p n c, .slice q m d, .int .i64 few] w fun e w' => ∃ (X : Nat) (pV : Option Addr) (cV : Nat) (pM : Option Addr) (cM : Nat) (pb : Option Addr) (cb : Nat) (vs ms : List Nat), e = .returned (.tuple #[.pointer (some ⟨X, 0, none⟩), .agg #[.slice pV vs.length cV, .slice pM ms.length cM], .slice pb (Sp.encode vs ms).length cb, .bool true]) ∧
      Pr.Ask w' X vs ms ∧ Rd w'.heap.size w' (.slice pV vs.length cV) (U64 vs) ∧ Rd w'.heap.size w' (.slice pM ms.length cM) (I64 (NI ms)) ∧ w'.ownsRow w.heap.size 5 1 (.slice pb (Sp.encode vs ms).length cb) (Sp.encode vs ms).length (By (Sp.encode vs ms)) ∧ Below w.heap.size w w' := by
  have HRW := hide (fun (w' : World) (hb : Below w.heap.size w w') => krow_any B p n c xs q m d ys few w' (hv.below (hb.mono hB)) (hy.below (hb.mono hB)) (Nat.le_trans hB hb.size) hbig hn hfew)
  have HT := hide hT
  have HU := hide hU
  clear hv hy hbig hT hU
  go_enter Tryd.func23, Tryd.ntmps23
  go_wp2_with fail
  refine (unhide HRW _ (alloc_bel _ _)).mono ?_
  rintro e w1 ⟨V, M, vs, ms, rfl, hoV, hoM, hap, hmd, hb1⟩
  obtain ⟨pV, cV, rfl, _⟩ := own_slice hoV
  obtain ⟨pM, cM, rfl, _⟩ := own_slice hoM
  clear HRW
  have hfit : Fits vs ms := hmd.fits (by omega)
  have hb2 := bel_trans hb1 (alloc_bel w1 (.cells #[.slice pV vs.length cV, .slice pM ms.length cM] 25))
  have hbw2 := bel_trans (alloc_bel _ _) hb2
  have k0 := box5 w1 #[.slice pV vs.length cV, .slice pM ms.length cM] 25 0 _ rfl
  have k1 := box5 w1 #[.slice pV vs.length cV, .slice pM ms.length cM] 25 1 _ rfl
  have HRV := hide (Rd.owned (hoV.alloc (.cells #[.slice pV vs.length cV, .slice pM ms.length cM] 25)))
  have HRM := hide (Rd.owned (hoM.alloc (.cells #[.slice pV vs.length cV, .slice pM ms.length cM] 25)))
  have HF := hide hfit
  have HB2 := hide hb2
  have HBW2 := hide hbw2
  have HBU := hide (kbuilt_idx _ pV vs.length cV vs pM ms.length cM ms _ (unhide HRV) (unhide HRM) (Nat.le_refl _) hfit ((unhide HU).below hbw2 (unhide HU).1))
  have hl26 := enc_len_small hfit
  have HK : Hid (∀ w' : World, Below (w1.alloc (.cells #[.slice pV vs.length cV, .slice pM ms.length cM] 25)).heap.size (w1.alloc (.cells #[.slice pV vs.length cV, .slice pM ms.length cM] 25)) w' → w'.cell? ⟨w1.heap.size, 0, none⟩ = some (.slice pV vs.length cV) ∧ w'.cell? ⟨w1.heap.size, 1, none⟩ = some (.slice pM ms.length cM)) := fun w' hb => ⟨later_cell k0 hb, later_cell k1 hb⟩
  have HH : Hid (∀ w' : World, Below (w.alloc (.cells #[.slice none 0 0, .slice none 0 0] 25)).heap.size (w.alloc (.cells #[.slice none 0 0, .slice none 0 0] 25)) w' → (w'.cell? ⟨w.heap.size, 0, none⟩ = some (.slice none 0 0) ∧ w'.cell? ⟨w.heap.size, 1, none⟩ = some (.slice none 0 0)) ∧ ∀ j, w'.frozen? ⟨w.heap.size, j, none⟩ = false) := by
    intro w' hb
    have hblk : w'.heap[w.heap.size]? = some (.cells #[.slice none 0 0, .slice none 0 0] 25 (0, 0)) := (hb.block w.heap.size (by simp)).trans (heap_alloc_new _ _)
    exact ⟨⟨by rw [cell_of_row _ _ _ _ _ (0, 0) hblk]; rfl, by rw [cell_of_row _ _ _ _ _ (0, 0) hblk]; rfl⟩, fun j => frozen_of_row w' _ j _ _ hblk⟩
  have HVB : Hid ((∀ g, (Value.slice pV vs.length cV).ownBlock = some g → g ≠ w.heap.size) ∧ (∀ g, (Value.slice pM ms.length cM).ownBlock = some g → g ≠ w.heap.size)) := by
    refine ⟨fun g hg => ?_, fun g hg => ?_⟩
    · have := (hoV.lt g hg).1
      simp at this
      omega
    · have := (hoM.lt g hg).1
      simp at this
      omega
  clear hoV hoM hap hmd hb1 hfit hb2 hbw2
  generalize hlv : vs.length = lv at *
  generalize hlm : ms.length = lm at *
  have HLL := hide (And.intro hlv hlm)
  clear hlv hlm
  go_wp2_with fail
  refine (unhide HBU).mono ?_
  rintro e w3 ⟨X, rfl, hidx, hb3⟩
  have HA3 := hide hidx
  have HEN := hide (encode_any _ _ X vs ms w3 hidx (unhide HF) ((unhide HT).below (bel_trans (unhide HBW2) hb3) (unhide HT).1))
  have HB3 := hide hb3
  have HS3 := hide hb3.size
  clear hidx hb3 HBU k0 k1
  go_wp2_with fail
  refine (unhide HEN).mono ?_
  rintro e w4 ⟨v4, rfl, ho4, hb4⟩
  rw [By_len] at ho4
  obtain ⟨pb, cb, rfl, _⟩ := own_slice ho4
  have hb34 := bel_trans (unhide HB3) hb4
  obtain ⟨k0, k1⟩ := unhide HK _ hb34
  obtain ⟨⟨h0, h1⟩, hf⟩ := unhide HH _ (bel_trans (unhide HB2) hb34)
  have HB34 := hide hb34
  have HO4 := hide ho4
  have HA4 := hide (idx_later (unhide HA3) hb4 (Nat.le_refl _) hb4.size)
  have HS1 := hide (unhide HB2).size
  have hen : (14 : Int) ≤ ((Sp.encode vs ms).length : Int) := by omega
  have hed : decide ((14 : Int) ≤ ((Sp.encode vs ms).length : Int)) = true := decide_eq_true hen
  clear hb34 ho4 hb4 HEN HA3 HB3
  go_wp2_with fail
  go_region
  all_goals go_wp2
  all_goals
    have n0 : (((w4.setCell ⟨w.heap.size, 0, none⟩ (.slice pV lv cV)).setCell ⟨w.heap.size, 1, none⟩ (.slice pM lm cM))).cell? ⟨w.heap.size, 0, none⟩ = some (.slice pV lv cV) := by
      rw [World.cell?_setCell_other _ _ _ _ (by simp)]
      exact World.cell?_setCell_same _ _ _ h0
    have n1 : (((w4.setCell ⟨w.heap.size, 0, none⟩ (.slice pV lv cV)).setCell ⟨w.heap.size, 1, none⟩ (.slice pM lm cM))).cell? ⟨w.heap.size, 1, none⟩ = some (.slice pM lm cM) :=
      World.cell?_setCell_same _ _ _ (by rw [World.cell?_setCell_other _ _ _ _ (by simp)]; exact h1)
    have HN := hide (And.intro n0 n1)
    have hb4 : Below w.heap.size w w4 := bel_trans (unhide HBW2) (unhide HB34)
    have hb5 : Below w.heap.size w ((w4.setCell ⟨w.heap.size, 0, none⟩ (.slice pV lv cV)).setCell ⟨w.heap.size, 1, none⟩ (.slice pM lm cM)).drew := ((hb4.setCell (Nat.le_refl _) _).setCell (Nat.le_refl _) _).drew
    have hsz : ((w4.setCell ⟨w.heap.size, 0, none⟩ (.slice pV lv cV)).setCell ⟨w.heap.size, 1, none⟩ (.slice pM lm cM)).drew.heap.size = w4.heap.size := by simp [World.drew]
    have rV := rd_setCell (a := ⟨w.heap.size, 1, none⟩) (rd_setCell (a := ⟨w.heap.size, 0, none⟩) ((unhide HRV).below (unhide HB34)) (unhide HVB).1 (.slice pV lv cV)) (unhide HVB).1 (.slice pM lm cM)
    have rM := rd_setCell (a := ⟨w.heap.size, 1, none⟩) (rd_setCell (a := ⟨w.heap.size, 0, none⟩) ((unhide HRM).below (unhide HB34)) (unhide HVB).2 (.slice pV lv cV)) (unhide HVB).2 (.slice pM lm cM)
    have hs3 : w.heap.size < w3.heap.size := by
      have h1 := unhide HS3
      have h2 := unhide HS1
      simp at h1 h2
      omega
    have hob : ∀ g, (Value.slice pb (Sp.encode vs ms).length cb).ownBlock = some g → g ≠ w.heap.size := fun g hg => by
      have := ((unhide HO4).lt g hg).1
      omega
    have oB := (own_setCell (a := ⟨w.heap.size, 1, none⟩) (own_setCell (a := ⟨w.heap.size, 0, none⟩) (unhide HO4) hob (.slice pV lv cV)) hob (.slice pM lm cM)).drew
    have hI := idx_set (idx_set (unhide HA4) (H := w.heap.size) (by have h2 := unhide HS1; simp at h2 ⊢; omega) 0 (.slice pV lv cV)) (H := w.heap.size) (by have h2 := unhide HS1; simp at h2 ⊢; omega) 1 (.slice pM lm cM)
    have hI2 := idx_later hI (drew_bel _) (Nat.le_refl _) (Nat.le_refl _)
    have HFIN := hide (And.intro hI2 (And.intro rV (And.intro rM (And.intro oB hb5))))
    have HSZ := hide hsz
    clear n0 n1 hb4 hb5 hsz rV rM oB hI hI2
    refine bodyPost_ret (v := .tuple #[.pointer (some ⟨X, 0, none⟩), .agg #[.slice pV lv cV, .slice pM lm cM], .slice pb (Sp.encode vs ms).length cb, .bool true]) (by simp [results, Tryd.results23, go_sem, (unhide HN).1, (unhide HN).2]) rfl ?_
    obtain ⟨i1, i2, i3, i4, i5⟩ := unhide HFIN
    have hsl := (unhide HB34).size
    refine ⟨X, pV, cV, pM, cM, pb, cb, vs, ms, by rw [(unhide HLL).1, (unhide HLL).2], ⟨⟨_, _, i1⟩, unhide HF, (unhide HU).below i5 (unhide HU).1⟩, ?_, ?_, own_base i4 (by omega), i5⟩
    · rw [(unhide HLL).1, unhide HSZ]
      exact i2.mono hsl
    · rw [(unhide HLL).2, unhide HSZ]
      exact i3.mono hsl
end Kp
end Go.Proofs.YtolkjadklbchfaaDoor
