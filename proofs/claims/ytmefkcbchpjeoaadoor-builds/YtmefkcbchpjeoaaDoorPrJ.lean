/- Walks of the program: Encode. -/
import Derived.Test.YtmefkcbchpjeoaaDoorPrI
import Derived.Test.YtmefkcbchpjeoaaDoorRefH
open Go Go.RowKit
namespace Go.Proofs.YtmefkcbchpjeoaaDoor
namespace Pr
open Mem Rf

theorem with_v {base : Nat} {v0 : Value} {ys : List Nat} {y : Value} {B : Nat} {xs : List Nat} {w : World} (hr : Rd B w y (By xs)) (hx : ∀ x ∈ xs, x < 256) (hn : xs.length ≤ 1000000000000) (hT : Tab w) (hown0 : w.ownsRow base 5 1 v0 ys.length (By ys)) (hny : ys.length ≤ 1000000000000) (hb0 : base ≤ w.heap.size) :
    Calls Tryd.prog 50 #[v0, y] w fun e w' => ∃ v, e = .returned v ∧ (w'.ownsRow base 5 1 v (ys ++ Sp.sealed xs).length (By (ys ++ Sp.sealed xs)) ∧ w.heap.size ≤ w'.heap.size ∧ w.grownBy w' v0.ownBlock ∧ (v.ownBlock = v0.ownBlock ∨ ∃ k, w.heap.size ≤ k ∧ v.ownBlock = some k)) := by
  obtain ⟨p, c, rfl, _⟩ := hr.form
  exact with_any base v0 ys p B _ c xs w hr hx (by rw [By_len]; exact hn) hT hown0 hny hb0

/-- What Encode has, part by part: out lies in a row of its own from base on. -/
structure EnSt (w w' : World) (out : Value) (ys : List Nat) : Prop where
  own : w'.ownsRow w.heap.size 5 1 out ys.length (By ys)
  bel : Below w.heap.size w w'

theorem EnSt.next {w w1 w2 w3 : World} {out out' : Value} {ys zs : List Nat} (h : EnSt w w1 out ys) (hb2 : Below w1.heap.size w1 w2)
    (hg : w2.grownBy w3 out.ownBlock) (ho : w3.ownsRow w.heap.size 5 1 out' zs.length (By zs)) : EnSt w w3 out' zs := by
  have s1 := h.bel.size
  have s2 := hb2.size
  refine ⟨ho, (h.bel.trans (hb2.mono s1)).grown hg (by omega) ?_⟩
  intro k hk
  exact (h.own.lt k hk).1

theorem idx_cells {lo hi : Nat} {w : World} {X : Nat} {vs ms : List Nat} (h : Idx lo hi w X vs ms) : ∃ v1 v2 v3, w.cell? ⟨X, 0, none⟩ = some (.int .i64 (Sp.widthOf vs : Nat)) ∧ w.cell? ⟨X, 1, none⟩ = some (.int .i64 (vs.length : Nat)) ∧ w.cell? ⟨X, 2, none⟩ = some (.int .i64 (ms.length : Nat)) ∧
    w.cell? ⟨X, 3, none⟩ = some v1 ∧ w.cell? ⟨X, 4, none⟩ = some v2 ∧ w.cell? ⟨X, 5, none⟩ = some v3 ∧
    w.ownsRow lo 5 1 v1 (Sp.pack (Sp.layers vs)).length (By (Sp.pack (Sp.layers vs))) ∧ w.ownsRow lo 5 1 v2 (Sp.pack (Sp.brackets vs)).length (By (Sp.pack (Sp.brackets vs))) ∧ w.ownsRow lo 5 1 v3 (Sp.pack (Sp.marks vs.length ms)).length (By (Sp.pack (Sp.marks vs.length ms))) := by
  obtain ⟨v1, v2, v3, hb, o1, _, o2, _, o3, _⟩ := h.blk
  refine ⟨v1, v2, v3, ?_, ?_, ?_, ?_, ?_, ?_, o1, o2, o3⟩ <;> (rw [cell_of_row _ _ _ _ _ (0, 0) hb]; rfl)

set_option maxHeartbeats 2000000 in
theorem encode_any (lo hi X : Nat) (vs ms : List Nat) (w : World) (hidx : Idx lo hi w X vs ms) (hf : Fits vs ms) (hT : Tab w) :
    Calls Tryd.prog 17 #[.pointer (some ⟨X, 0, none⟩)] w (Gives w 5 (By (Sp.encode vs ms))) := by
  obtain ⟨v1, v2, v3, c0, c1, c2, c3, c4, c5, o1, o2, o3⟩ := idx_cells hidx
  have hlt := World.block_lt_of_cell? _ _ c0
  simp only at hlt
  have h64 := Sp.widthOf_le vs hf.big
  have HH := hide (head_any X _ _ _ w c0 c1 c2 h64 hf.len (Nat.le_trans hf.mlen hf.len))
  have hl := hf.len
  have s1 := layers_small hf.big (by omega : vs.length ≤ 1000)
  have s2 := brackets_small (by omega : vs.length ≤ 1000)
  have s3 := marks_small (n := vs.length) (ms := ms) (by omega) (by have := hf.mlen; omega)
  obtain ⟨p1, d1, rfl, _⟩ := own_slice o1
  obtain ⟨p2, d2, rfl, _⟩ := own_slice o2
  obtain ⟨p3, d3, rfl, _⟩ := own_slice o3
  have HT := hide hT
  have HO := hide (And.intro o1 (And.intro o2 o3))
  have h0 : 0 < w.heap.size := hT.1
  have HEQ : Hid (Sp.encode vs ms = (([] ++ Sp.sealed (Sp.head (Sp.widthOf vs) vs.length ms.length)) ++ Sp.sealed (Sp.pack (Sp.layers vs))) ++ Sp.sealed (Sp.pack (Sp.brackets vs)) ++ Sp.sealed (Sp.pack (Sp.marks vs.length ms))) := by
    simp [Hid, Sp.encode]
  have HC := hide (And.intro c3 (And.intro c4 c5))
  have HF := hide hf
  clear hidx c0 c1 c2 c3 c4 c5 o1 o2 o3 hf hT
  go_enter Tryd.func17, Tryd.ntmps17
  go_wp2_with fail
  refine (unhide HH).mono ?_
  rintro e w1 ⟨y1, rfl, q1, b1⟩
  have Q1 := hide (And.intro q1 b1)
  clear q1 b1 HH
  go_wp2_with fail
  refine (with_v (base := w.heap.size) (ys := []) (Rd.owned (unhide Q1).1) (head_lt h64 (by omega) (by have := (unhide HF).mlen; omega)) (by simp [Sp.head]) ((unhide HT).below (unhide Q1).2 h0) (World.ownsRow_nil _ _ _ _) (by simp) (unhide Q1).2.size).mono ?_
  rintro e w2 ⟨x2, rfl, ho2, hs2, hg2, _⟩
  have E2 : Hid (EnSt w w2 x2 ([] ++ Sp.sealed (Sp.head (Sp.widthOf vs) vs.length ms.length))) := ⟨ho2, (unhide Q1).2.grown hg2 (unhide Q1).2.size (by intro k hk; cases hk)⟩
  have k3 := ((unhide E2).bel.cell (p := ⟨X, 3, none⟩) hlt).trans (unhide HC).1
  clear ho2 hs2 hg2 Q1
  go_wp2_with fail
  refine (bytes_any p1 _ _ d1 (Sp.pack (Sp.layers vs)) w2 ((Rd.owned (unhide HO).1).below (unhide E2).bel) (unhide E2).bel.size (by rw [Sp.pack_len]; omega)).mono ?_
  rintro e u3 ⟨y3, rfl, q3, b3⟩
  have Q3 := hide (And.intro q3 b3)
  have BB3 := hide ((unhide E2).bel.trans (b3.mono (unhide E2).bel.size))
  have OO3 := hide (own_later (unhide E2).own b3)
  clear q3 b3
  go_wp2_with fail
  refine (with_v (Rd.owned (unhide Q3).1) (Sp.pack_lt _) (by rw [Sp.pack_len]; omega) ((unhide HT).below (unhide BB3) h0) (unhide OO3) (by simp only [List.length_append, Sp.sealed_len, List.length_nil, Sp.head, List.length_cons]; omega) (unhide BB3).size).mono ?_
  rintro e w3 ⟨x3, rfl, ho3, hs3, hg3, _⟩
  have E3 := hide (EnSt.next (unhide E2) (unhide Q3).2 hg3 ho3)
  clear ho3 hs3 hg3 Q3 BB3 OO3
  have k4 := ((unhide E3).bel.cell (p := ⟨X, 4, none⟩) hlt).trans (unhide HC).2.1
  clear E2 k3
  go_wp2_with fail
  refine (bytes_any p2 _ _ d2 (Sp.pack (Sp.brackets vs)) w3 ((Rd.owned (unhide HO).2.1).below (unhide E3).bel) (unhide E3).bel.size (by rw [Sp.pack_len]; omega)).mono ?_
  rintro e u4 ⟨y4, rfl, q4, b4⟩
  have Q4 := hide (And.intro q4 b4)
  have BB4 := hide ((unhide E3).bel.trans (b4.mono (unhide E3).bel.size))
  have OO4 := hide (own_later (unhide E3).own b4)
  clear q4 b4
  go_wp2_with fail
  refine (with_v (Rd.owned (unhide Q4).1) (Sp.pack_lt _) (by rw [Sp.pack_len]; omega) ((unhide HT).below (unhide BB4) h0) (unhide OO4) (by simp only [List.length_append, Sp.sealed_len, Sp.pack_len, List.length_nil, Sp.head, List.length_cons]; omega) (unhide BB4).size).mono ?_
  rintro e w4 ⟨x4, rfl, ho4, hs4, hg4, _⟩
  have E4 := hide (EnSt.next (unhide E3) (unhide Q4).2 hg4 ho4)
  clear ho4 hs4 hg4 Q4 BB4 OO4
  have k5 := ((unhide E4).bel.cell (p := ⟨X, 5, none⟩) hlt).trans (unhide HC).2.2
  clear E3 k4
  go_wp2_with fail
  refine (bytes_any p3 _ _ d3 (Sp.pack (Sp.marks vs.length ms)) w4 ((Rd.owned (unhide HO).2.2).below (unhide E4).bel) (unhide E4).bel.size (by rw [Sp.pack_len]; omega)).mono ?_
  rintro e u5 ⟨y5, rfl, q5, b5⟩
  have Q5 := hide (And.intro q5 b5)
  have BB5 := hide ((unhide E4).bel.trans (b5.mono (unhide E4).bel.size))
  have OO5 := hide (own_later (unhide E4).own b5)
  clear q5 b5
  go_wp2_with fail
  refine (with_v (Rd.owned (unhide Q5).1) (Sp.pack_lt _) (by rw [Sp.pack_len]; omega) ((unhide HT).below (unhide BB5) h0) (unhide OO5) (by simp only [List.length_append, Sp.sealed_len, Sp.pack_len, List.length_nil, Sp.head, List.length_cons]; omega) (unhide BB5).size).mono ?_
  rintro e w5 ⟨x5, rfl, ho5, hs5, hg5, _⟩
  have E5 := hide (EnSt.next (unhide E4) (unhide Q5).2 hg5 ho5)
  clear ho5 hs5 hg5 Q5 BB5 OO5
  go_wp2
  go_ret
  exact ⟨x5, rfl, by rw [By_len, HEQ.out]; exact (unhide E5).own, (unhide E5).bel⟩
end Pr
end Go.Proofs.YtmefkcbchpjeoaaDoor
