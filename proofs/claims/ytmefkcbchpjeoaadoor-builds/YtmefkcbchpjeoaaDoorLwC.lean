/- Walks of the law: looks. -/
import Derived.Test.YtmefkcbchpjeoaaDoorLwB
open Go Go.RowKit
namespace Go.Proofs.YtmefkcbchpjeoaaDoor
namespace Lw
open Mem Rf Pr

theorem full_v {y : Value} {B n m : Nat} {w : World} (hr : Rd B w y (By (List.replicate n m))) (hn : n ≤ 1000000000000) : Calls Tryd.prog 16 #[y, .int .u8 (m : Int)] w fun e w' => e = .returned (.bool true) ∧ w' = w := by
  obtain ⟨p, c, rfl, _⟩ := hr.form
  have hl : (By (List.replicate n m)).length = n := by rw [By_len]; simp
  rw [hl] at hr ⊢
  exact full_any p B n c m w hr hn

theorem bks_len (bs : List Bk) : (bks bs).length = bs.length * 5 := by
  induction bs with
  | nil => rfl
  | cons b l ih =>
    have : bks (b :: l) = [b.l, b.a, b.b, b.c, .int .u8 (b.m : Int)] ++ bks l := by simp [bks]
    rw [this, List.length_append, ih]
    simp only [List.length_cons, List.length_nil]
    omega
theorem bks_at (bs : List Bk) (i : Nat) (h : i < bs.length) : (bks bs)[i * 5]? = some bs[i].l ∧ (bks bs)[i * 5 + 1]? = some bs[i].a ∧ (bks bs)[i * 5 + 2]? = some bs[i].b ∧ (bks bs)[i * 5 + 3]? = some bs[i].c ∧ (bks bs)[i * 5 + 4]? = some (.int .u8 (bs[i].m : Int)) := by
  induction bs generalizing i with
  | nil => simp at h
  | cons b l ih =>
    have e : bks (b :: l) = [b.l, b.a, b.b, b.c, .int .u8 (b.m : Int)] ++ bks l := by simp [bks]
    cases i with
    | zero => rw [e]; simp
    | succ i =>
      have := ih i (by simpa using h)
      rw [e]
      have q : ∀ j, j < 5 → ([b.l, b.a, b.b, b.c, .int .u8 (b.m : Int)] ++ bks l)[(i + 1) * 5 + j]? = (bks l)[i * 5 + j]? := by
        intro j hj
        rw [List.getElem?_append_right (by simp; omega)]
        congr 1
        simp
        omega
      have q0 := q 0 (by omega)
      simp only [Nat.add_zero] at q0
      rw [q0, q 1 (by omega), q 2 (by omega), q 3 (by omega), q 4 (by omega)]
      simpa using this

/-- The cells of an owned row of five-cell elements. -/
theorem own_form5 {w : World} {base : Nat} {e : TypeId} {v : Value} {n : Nat} {xs : List Value} (h : w.ownsRow base e 5 v n xs) (hn : 0 < n) :
    ∃ g cap, v = .slice (some ⟨g, 0, none⟩) n cap ∧ n ≤ cap ∧ base ≤ g ∧ g < w.heap.size ∧ (∀ j u, xs[j]? = some u → w.cell? ⟨g, j, none⟩ = some u) := by
  rcases h.2 with ⟨_, h0⟩ | ⟨g, cap, cur, rfl, hbg, hgg, hnc, hcm, hcs, ht⟩
  · omega
  · refine ⟨g, cap, rfl, hnc, hbg, (Array.getElem?_eq_some_iff.1 hgg).1, ?_⟩
    intro j u hu
    have hj : j < n * 5 := by rw [← h.1]; exact (List.getElem?_eq_some_iff.1 hu).1
    rw [h.cellAt j hj, hu]

set_option maxHeartbeats 2000000 in
theorem looks_any (base U : Nat) (W0 w : World) (xv yv bv : Value) (is : List It) (bs : List Bk) (h : WSt base U W0 w xv yv bv is bs) (hbs : bs.length ≤ 1300000000000) :
    Calls Tryd.prog 7 #[.pointer (some ⟨U, 2, none⟩)] w fun e w' => e = .returned (.bool true) ∧ Below w.heap.size w w' := by
  have hc := h.cells.2.2.1
  obtain ⟨pb, cb, rfl, hcb⟩ := own_slice h.ob
  have HH := hide h
  have hul := h.ult
  clear h
  go_enter Tryd.func7, Tryd.ntmps7
  go_wp2
  go_loopw [3] (fun ii wr => ∃ i : Nat, i ≤ bs.length ∧ ii = .int .i64 i ∧ Below w.heap.size w wr) (fun ii _ => bs.length - (intOf ii).toNat)
  case atStart => exact ⟨0, Nat.zero_le _, rfl, Below.refl _ _⟩
  case round =>
    obtain ⟨i, hi, rfl, hbel⟩ := hrel
    have hcr : wr.cell? ⟨U, 2, none⟩ = some (.slice pb bs.length cb) := (hbel.cell (p := ⟨U, 2, none⟩) hul).trans hc
    have HB := hide hbel
    have hwr := hbel.size
    clear hc hbel
    by_cases hlt : i < bs.length
    · obtain ⟨g, cap, he, hcap, hbg, hg, hcells⟩ := own_form5 (unhide HH).ob (by omega)
      simp only [Value.slice.injEq] at he
      obtain ⟨rfl, _, rfl⟩ := he
      have hat := bks_at bs i hlt
      have hbel := unhide HB
      have e0 := (hbel.cell (p := ⟨g, i * 5, none⟩) hg).trans (hcells _ _ hat.1)
      have e1 := (hbel.cell (p := ⟨g, i * 5 + 1, none⟩) hg).trans (hcells _ _ hat.2.1)
      have e2 := (hbel.cell (p := ⟨g, i * 5 + 2, none⟩) hg).trans (hcells _ _ hat.2.2.1)
      have e3 := (hbel.cell (p := ⟨g, i * 5 + 3, none⟩) hg).trans (hcells _ _ hat.2.2.2.1)
      have e4 := (hbel.cell (p := ⟨g, i * 5 + 4, none⟩) hg).trans (hcells _ _ hat.2.2.2.2)
      have hok := (unhide HH).bok bs[i] (List.getElem_mem hlt)
      have hn := hok.rn
      have R1 := hide (fun o => (hok.rl.1.below hbel).alloc hwr o)
      have R2 := hide (fun o => (hok.ra.1.below hbel).alloc hwr o)
      have R3 := hide (fun o => (hok.rb.1.below hbel).alloc hwr o)
      have R4 := hide (fun o => (hok.rc.1.below hbel).alloc hwr o)
      obtain ⟨p1, c1, f1, _⟩ := hok.rl.1.form
      obtain ⟨p2, c2, f2, _⟩ := hok.ra.1.form
      obtain ⟨p3, c3, f3, _⟩ := hok.rb.1.form
      obtain ⟨p4, c4, f4, _⟩ := hok.rc.1.form
      rw [By_len, List.length_replicate] at f1 f2 f3 f4
      rw [f1] at e0 R1
      rw [f2] at e1 R2
      rw [f3] at e2 R3
      rw [f4] at e3 R4
      clear hat hcells hbel hok f1 f2 f3 f4
      generalize bs[i].n = q at *
      generalize bs[i].m = mm at *
      go_wp2_with fail
      refine at_same (full_any p1 _ q c1 mm _ (unhide R1 _) (by omega)) ?_
      go_wp2_with fail
      refine at_same (full_any p2 _ (q + 1) c2 mm _ (unhide R2 _) (by omega)) ?_
      go_wp2_with fail
      refine at_same (full_any p3 _ (q + 2) c3 mm _ (unhide R3 _) (by omega)) ?_
      go_wp2_with fail
      refine at_same (full_any p4 _ (q + 3) c4 mm _ (unhide R4 _) (by omega)) ?_
      go_wp2
      go_roundw
      case rel => exact ⟨i + 1, by omega, by go_num, (unhide HB).alloc hwr _⟩
      case measure => simp [intOf]; omega
    · go_wp2
      go_ret
      exact ⟨rfl, unhide HB⟩
end Lw
end Go.Proofs.YtmefkcbchpjeoaaDoor
