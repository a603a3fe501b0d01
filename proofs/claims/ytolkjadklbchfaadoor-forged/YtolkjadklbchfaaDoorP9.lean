import Derived.Test.YtolkjadklbchfaaDoorP8
/- Walks of the program: layer.Against, Place with their closures. -/
open Go Go.RowKit
namespace Go.Proofs.YtolkjadklbchfaaDoor
namespace Pr
open Mem Rf

/-- What Against's closure holds: the number, and how many are less so far. -/
def AgI (V L : Nat) (P : List Nat) (v : Nat) (j : Nat) (s : List Nat) (w : World) : Prop :=
  s = Sp.eqs P v j ∧ w.cell? ⟨V, 0, none⟩ = some (.int .u64 (v : Nat)) ∧ w.cell? ⟨L, 0, none⟩ = some (.int .i64 (Sp.lts P v j : Nat)) ∧ w.frozen? ⟨L, 0, none⟩ = false
theorem agI_stable {S V L : Nat} (hV : V < S) (hL : L < S) (P : List Nat) (v j : Nat) (s : List Nat) : Stable S (AgI V L P v j s) := by
  rintro w w' h ⟨h1, h2, h3, h4⟩
  exact ⟨h1, stable_cell hV _ w w' h h2, stable_cell hL _ w w' h h3, stable_frozen hL _ w w' h h4⟩
theorem lts_le (P : List Nat) (v j : Nat) : Sp.lts P v j ≤ P.length := List.countP_le_length

set_option maxHeartbeats 1000000 in
theorem against1_does (S B : Nat) (w0 : World) (V L : Nat) (P : List Nat) (v W : Nat) (hv : v < 18446744073709551616) (hW : W ≤ 64) (hP : P.length ≤ 200) (hL : B ≤ L) (hLS : L < S) (hne : V ≠ L) :
    Does_lAgainst1 S B w0 (.pointer (some ⟨V, 0, none⟩)) (.pointer (some ⟨L, 0, none⟩)) W (AgI V L P v) := by
  rintro j s w hj ⟨rfl, hcV, hcL, hfL⟩ hlen hS hbel
  have hzl : (Sp.eqs P v (j + 1)).countP (fun x => !x.testBit j) ≤ 200 := Nat.le_trans List.countP_le_length hlen
  have hll := lts_le P v (j + 1)
  have HC := hide (fun W' => has_any v j W' hv (by omega))
  have HES := hide (Sp.eqs_step P v j)
  have HLS := hide (Sp.lts_step P v j)
  have HB := hide hbel
  clear hbel
  cases hb : v.testBit j with
  | false =>
    rw [hb] at HC HES HLS
    have HK := hide (And.intro hcV (And.intro hcL hfL))
    generalize (Sp.eqs P v (j + 1)).countP (fun x => !x.testBit j) = z at *
    clear hb
    go_enter Tryd.func64, Tryd.ntmps64
    go_wp2_with (go_at_call 65; refine at_same (unhide HC _) ?_)
    go_ret
    refine ⟨false, rfl, ⟨(unhide HES).symm, (unhide HK).1, ?_, (unhide HK).2.2⟩, unhide HB, Above.refl _ _⟩
    rw [unhide HLS]
    simpa using (unhide HK).2.1
  | true =>
    rw [hb] at HC HES HLS
    rw [if_pos rfl] at HLS
    generalize (Sp.eqs P v (j + 1)).countP (fun x => !x.testBit j) = z at *
    generalize hG : Sp.lts P v (j + 1) = q at *
    clear hb hG
    have hV2 : ∀ u, (w.setCell ⟨L, 0, none⟩ u).cell? ⟨V, 0, none⟩ = some (.int .u64 (v : Nat)) := fun u => by
      rw [World.cell?_setCell_other _ _ _ _ (by simp)]
      exact hcV
    go_enter Tryd.func64, Tryd.ntmps64
    go_wp2_with (go_at_call 65; refine at_same (unhide HC _) ?_)
    go_ret
    refine ⟨true, rfl, ⟨(unhide HES).symm, hV2 _, ?_, by simpa using hfL⟩, (unhide HB).setCell hL _, by simp, ?_⟩
    · rw [unhide HLS, Int.natCast_add]
      exact World.cell?_setCell_same _ _ _ hcL
    · intro g hg _
      exact Below.heap_setCell _ _ _ _ (by show g ≠ L; omega)

set_option maxHeartbeats 1000000 in
theorem against_any (lo : Nat) (yw ya : Value) (vs : List Nat) (W l r v : Nat) (w : World) (h : Ly lo w yw ya vs W) (hv : ∀ x ∈ vs, x < 2 ^ W) (hv64 : v < 18446744073709551616) (hlr : l ≤ r) (hr : r ≤ vs.length) :
    Calls Tryd.prog 35 #[.agg #[yw, ya, .int .i64 ((Sp.lay vs W).length : Nat), .int .i64 (W : Nat), .int .i64 (vs.length : Nat)], .int .i64 (l : Nat), .int .i64 (r : Nat), .int .u64 (v : Nat)] w fun e w' => e = .returned (.tuple #[.int .i64 ((Sp.sl vs l r).countP (fun y => decide (y < v)) : Nat), .int .i64 ((Sp.sl vs l r).count v : Nat)]) ∧ Below w.heap.size w w' := by
  have hn := h.n
  have hPl : (Sp.sl vs l r).length = r - l := Sp.sl_len vs hr
  have hP : ∀ x ∈ Sp.sl vs l r, x < 2 ^ W := fun x hx => hv x (Sp.sl_mem hx)
  have HW := hide (fun W' => wide_any yw ya (.int .i64 ((Sp.lay vs W).length : Nat)) (.int .i64 (vs.length : Nat)) W v hv64 W')
  by_cases hwide : W < Sp.blen v
  · obtain ⟨e1, e2⟩ := Sp.wide_all hP hwide
    have hd : decide (W < Sp.blen v) = true := by simpa using hwide
    rw [hd] at HW
    have E1 : Hid ((Sp.sl vs l r).countP (fun y => decide (y < v)) = r - l) := e1.trans hPl
    have E2 := hide e2
    obtain ⟨pw, cw, pa, ca, rfl, rfl⟩ := h.row.form
    clear h hv hd e1 e2 hwide hPl hP
    have HBK : Hid (∀ (o0 o1 : Obj) (t2 : TypeId) (w' : World), Below (((w.alloc o0).alloc o1).alloc (.cells #[.int .i64 0] t2)).heap.size (((w.alloc o0).alloc o1).alloc (.cells #[.int .i64 0] t2)) w' → w'.cell? ⟨w.heap.size + 2, 0, none⟩ = some (.int .i64 0) ∧ w'.frozen? ⟨w.heap.size + 2, 0, none⟩ = false ∧ Below w.heap.size w w') := by
      intro o0 o1 t2 w' hb
      have hg : w'.heap[w.heap.size + 2]? = some (.cells #[.int .i64 0] t2 (0, 0)) := (hb.block _ (by simp)).trans (blk3 w _ _ _).2.2
      exact ⟨by rw [cell_of_row _ _ _ _ _ (0, 0) hg]; rfl, frozen_of_row _ _ _ _ _ hg, bel_trans (bel3 w _ _ _) hb⟩
    go_enter Tryd.func35, Tryd.ntmps35
    go_wp2_with fail
    refine (unhide HW _).mono ?_
    rintro e w1 ⟨rfl, hb1⟩
    obtain ⟨k1, k2, k3⟩ := unhide HBK _ _ _ _ hb1
    have HB := hide k3
    clear hb1 k3
    go_wp2
    have hset := World.cell?_setCell_same w1 ⟨w.heap.size + 2, 0, none⟩ (.int .i64 ((r : Int) - (l : Int))) k1
    refine bodyPost_ret (v := .tuple #[.int .i64 ((r : Int) - (l : Int)), .int .i64 0]) (by simp [results, Tryd.results35, go_sem, hset]) rfl ?_
    refine ⟨?_, (unhide HB).setCell (by show w.heap.size ≤ w.heap.size + 2; omega) _⟩
    rw [unhide E1, unhide E2, show ((r - l : Nat) : Int) = (r : Int) - (l : Int) from by omega]
    rfl
  · have hd : decide (W < Sp.blen v) = false := by simpa using hwide
    have hvW := Sp.narrow hwide
    rw [hd] at HW
    have HF : Hid (∀ w1, (∃ (o0 : Obj) (t1 t2 : TypeId), Below (((w.alloc o0).alloc (.cells #[.int .u64 (v : Nat)] t1)).alloc (.cells #[.int .i64 0] t2)).heap.size (((w.alloc o0).alloc (.cells #[.int .u64 (v : Nat)] t1)).alloc (.cells #[.int .i64 0] t2)) w1) →
        Calls Tryd.prog 63 #[.agg #[yw, ya, .int .i64 ((Sp.lay vs W).length : Nat), .int .i64 (W : Nat), .int .i64 (vs.length : Nat)], .int .i64 (l : Nat), .int .i64 (r : Nat), .func (Fn.func 64) #[] #[.pointer (some ⟨w.heap.size + 1, 0, none⟩), .pointer (some ⟨w.heap.size + 2, 0, none⟩)]] w1 fun e w' =>
          ∃ a b : Nat, e = .returned (.tuple #[.int .i64 (a : Nat), .int .i64 (b : Nat)]) ∧ a ≤ b ∧ b ≤ vs.length ∧ b - a = (Sp.sl vs l r).count v ∧ w'.cell? ⟨w.heap.size + 2, 0, none⟩ = some (.int .i64 ((Sp.sl vs l r).countP (fun y => decide (y < v)) : Nat)) ∧ w'.frozen? ⟨w.heap.size + 2, 0, none⟩ = false ∧ Below w.heap.size w w') := by
      rintro w1 ⟨o0, t1, t2, hb1⟩
      obtain ⟨g0, g1, g2⟩ := blk3 w o0 (.cells #[.int .u64 (v : Nat)] t1) (.cells #[.int .i64 0] t2)
      have g1' : w1.heap[w.heap.size + 1]? = some (.cells #[.int .u64 (v : Nat)] t1 (0, 0)) := (hb1.block _ (by simp)).trans g1
      have g2' : w1.heap[w.heap.size + 2]? = some (.cells #[.int .i64 0] t2 (0, 0)) := (hb1.block _ (by simp)).trans g2
      have hsz : w.heap.size + 3 ≤ w1.heap.size := by have := hb1.size; simp at this; omega
      refine (follow_lAgainst1 w.heap.size lo w w1 yw ya vs W l r _ _ (AgI (w.heap.size + 1) (w.heap.size + 2) (Sp.sl vs l r) v) h rfl (bel_trans (bel3 w _ _ _) hb1) ?_ ?_ hlr hr ?_).mono ?_
      · intro j s
        exact agI_stable (by omega) (by omega) _ _ _ _
      · exact against1_does _ _ w _ _ _ v W hv64 h.wd (by omega) (by omega) (by omega) (by omega)
      · refine ⟨(Sp.eqs_top hP hvW).symm, ?_, ?_, frozen_of_row _ _ _ _ _ g2'⟩
        · rw [cell_of_row _ _ _ _ _ (0, 0) g1']; rfl
        · rw [cell_of_row _ _ _ _ _ (0, 0) g2', Sp.lts_top hvW]; rfl
      · rintro e w2 ⟨a, b, rfl, hab, hbn, ⟨hs, _, hcL, hfL⟩, hb⟩
        refine ⟨a, b, rfl, hab, hbn, ?_, by rw [← Sp.lts_end]; exact hcL, hfL, hb⟩
        rw [← Sp.eqs_end, ← hs, Sp.sl_len _ (by rw [Sp.ord_len]; exact hbn)]
    have HBX : Hid (∀ (o1 o2 : Obj) (w' : World), Below (((w.alloc (.cells #[yw, ya, .int .i64 ((Sp.lay vs W).length : Nat), .int .i64 (W : Nat), .int .i64 (vs.length : Nat)] 70)).alloc o1).alloc o2).heap.size (((w.alloc (.cells #[yw, ya, .int .i64 ((Sp.lay vs W).length : Nat), .int .i64 (W : Nat), .int .i64 (vs.length : Nat)] 70)).alloc o1).alloc o2) w' →
        w'.cell? ⟨w.heap.size, 0, none⟩ = some yw ∧ w'.cell? ⟨w.heap.size, 1, none⟩ = some ya ∧ w'.cell? ⟨w.heap.size, 2, none⟩ = some (.int .i64 ((Sp.lay vs W).length : Nat)) ∧ w'.cell? ⟨w.heap.size, 3, none⟩ = some (.int .i64 (W : Nat)) ∧ w'.cell? ⟨w.heap.size, 4, none⟩ = some (.int .i64 (vs.length : Nat))) := by
      intro o1 o2 w' hb
      have hg : w'.heap[w.heap.size]? = some (.cells #[yw, ya, .int .i64 ((Sp.lay vs W).length : Nat), .int .i64 (W : Nat), .int .i64 (vs.length : Nat)] 70 (0, 0)) := (hb.block _ (by simp; omega)).trans (blk3 w _ _ _).1
      refine ⟨?_, ?_, ?_, ?_, ?_⟩ <;> (rw [cell_of_row _ _ _ _ _ (0, 0) hg]; rfl)
    obtain ⟨pw, cw, pa, ca, rfl, rfl⟩ := h.row.form
    clear h hv hd hwide hPl hP
    generalize (Sp.sl vs l r).countP (fun y => decide (y < v)) = lt at *
    generalize (Sp.sl vs l r).count v = eq at *
    go_enter Tryd.func35, Tryd.ntmps35
    go_wp2_with fail
    refine (unhide HW _).mono ?_
    rintro e w1 ⟨rfl, hb1⟩
    obtain ⟨k0, k1, k2, k3, k4⟩ := unhide HBX _ _ _ hb1
    have HFF := hide (unhide HF w1 ⟨_, _, _, hb1⟩)
    clear hb1 HF HW
    go_wp2_with fail
    refine (unhide HFF).mono ?_
    rintro e w2 ⟨a, b, rfl, hab, hbn, hba, hcL, hfL, hb⟩
    have HB := hide hb
    have HBA := hide hba
    clear hb hba HFF
    go_wp2
    have hset := World.cell?_setCell_same w2 ⟨w.heap.size + 2, 0, none⟩ (.int .i64 (lt : Int)) hcL
    refine bodyPost_ret (v := .tuple #[.int .i64 (lt : Int), .int .i64 ((b : Int) - (a : Int))]) (by simp [results, Tryd.results35, go_sem, hset]) rfl ?_
    refine ⟨?_, (unhide HB).setCell (by show w.heap.size ≤ w.heap.size + 2; omega) _⟩
    rw [← unhide HBA, show ((b - a : Nat) : Int) = (b : Int) - (a : Int) from by omega]
end Pr
end Go.Proofs.YtolkjadklbchfaaDoor
/- Walks of the program: layer.Place with its closure. -/
open Go Go.RowKit
namespace Go.Proofs.YtolkjadklbchfaaDoor
namespace Sp
/-- Where all of one value lie side by side, the k-th of them. -/
theorem at_run {now : List Nat} {v a b k : Nat} (hb : b ≤ now.length) (hall : ∀ x ∈ sl now a b, x = v) (hcnt : now.count v = b - a) (hk : k < b - a) : At now v k (a + k) := by
  have hl := sl_len now (a := a) (b := b) hb
  have hsl : ∀ c, a + c ≤ b → (sl now a (a + c)).count v = c := by
    intro c hc
    have h1 : sl now a (a + c) = (sl now a b).take c := by
      unfold sl
      rw [List.take_drop, List.take_take, Nat.min_eq_left hc]
    rw [h1, List.count_eq_length.2 (fun x hx => (hall x (List.mem_of_mem_take hx)).symm), List.length_take]
    omega
  have hfull := hsl (b - a) (by omega)
  rw [show a + (b - a) = b from by omega] at hfull
  have h0 : (now.take a).count v = 0 := by
    have h1 := take_sl now (show a ≤ b by omega)
    have h2 := count_take_mono now v hb
    rw [h1, List.count_append, hfull, List.take_length, hcnt] at h2
    omega
  refine ⟨?_, ?_⟩
  · have h1 := sl_at now (a := a) (b := b) (i := k) (by omega)
    rw [← h1, List.getElem?_eq_getElem (by omega)]
    congr 1
    exact hall _ (List.getElem_mem _)
  · rw [take_sl now (show a ≤ a + k by omega), List.count_append, h0, hsl k (by omega)]
    omega
theorem eqs_mem {P : List Nat} {v x : Nat} (h : x ∈ eqs P v 0) : x = v := by
  unfold eqs at h
  simpa using (List.mem_filter.1 h).2
end Sp
namespace Pr
open Mem Rf

def PlI (V H : Nat) (ob : Obj) (P : List Nat) (v : Nat) (j : Nat) (s : List Nat) (w : World) : Prop := s = Sp.eqs P v j ∧ w.cell? ⟨V, 0, none⟩ = some (.int .u64 (v : Nat)) ∧ w.heap[H]? = some ob
theorem plI_stable {S V H : Nat} (hV : V < S) (hH : H < S) (ob : Obj) (P : List Nat) (v j : Nat) (s : List Nat) : Stable S (PlI V H ob P v j s) := by
  rintro w w' h ⟨h1, h2, h3⟩
  exact ⟨h1, stable_cell hV _ w w' h h2, (h H hH).trans h3⟩

set_option maxHeartbeats 1000000 in
theorem place1_does (S B : Nat) (w0 : World) (V H : Nat) (ob : Obj) (P : List Nat) (v W : Nat) (hv : v < 18446744073709551616) (hW : W ≤ 64) :
    Does_lPlace1 S B w0 (.pointer (some ⟨V, 0, none⟩)) W (PlI V H ob P v) := by
  rintro j s w hj ⟨rfl, hcV, hob⟩ hlen hS hbel
  have HC := hide (fun W' => has_any v j W' hv (by omega))
  have HES := hide (Sp.eqs_step P v j)
  have HB := hide hbel
  clear hbel
  generalize (Sp.eqs P v (j + 1)).countP (fun x => !x.testBit j) = z at *
  generalize hG : v.testBit j = bb at *
  clear hG
  have HK := hide (And.intro hcV hob)
  go_enter Tryd.func66, Tryd.ntmps66
  go_wp2_with (go_at_call 65; refine at_same (unhide HC _) ?_)
  go_ret
  exact ⟨bb, rfl, ⟨(unhide HES).symm, unhide HK⟩, unhide HB, Above.refl _ _⟩

theorem blk2 (w : World) (o0 o1 : Obj) : ((w.alloc o0).alloc o1).heap[w.heap.size]? = some o0 ∧ ((w.alloc o0).alloc o1).heap[w.heap.size + 1]? = some o1 := by
  have h1 := heap_alloc_new (w.alloc o0) o1
  simp at h1
  refine ⟨?_, by simpa using h1⟩
  rw [Below.heap_alloc _ _ _ (by simp)]
  exact heap_alloc_new _ _
theorem bel2 (w : World) (o0 o1 : Obj) : Below w.heap.size w ((w.alloc o0).alloc o1) := bel_trans (alloc_bel _ _) (alloc_bel _ _)

/-- What Place answers. -/
def PlRes (vs : List Nat) (v k : Nat) (a : Int) (ok : Bool) : Prop := (vs.count v ≤ k ∧ a = 0 ∧ ok = false) ∨ ∃ p : Nat, Sp.At vs v k p ∧ a = (p : Int) ∧ ok = true

set_option maxHeartbeats 2000000 in
theorem lplace_any (lo : Nat) (yw ya : Value) (vs : List Nat) (W v k : Nat) (w : World) (h : Ly lo w yw ya vs W) (hv : ∀ x ∈ vs, x < 2 ^ W) (hv64 : v < 18446744073709551616) (hk : k ≤ 9223372036854775807) (hT : Bru w) :
    Calls Tryd.prog 37 #[.agg #[yw, ya, .int .i64 ((Sp.lay vs W).length : Nat), .int .i64 (W : Nat), .int .i64 (vs.length : Nat)], .int .u64 (v : Nat), .int .i64 (k : Nat)] w fun e w' => ∃ a ok, e = .returned (.tuple #[.int .i64 a, .bool ok]) ∧ PlRes vs v k a ok ∧ Below w.heap.size w w' := by
  have hn := h.n
  have HW := hide (fun W' => wide_any yw ya (.int .i64 ((Sp.lay vs W).length : Nat)) (.int .i64 (vs.length : Nat)) W v hv64 W')
  have HBX : Hid (∀ (o1 : Obj) (w' : World), Below ((w.alloc (.cells #[yw, ya, .int .i64 ((Sp.lay vs W).length : Nat), .int .i64 (W : Nat), .int .i64 (vs.length : Nat)] 70)).alloc o1).heap.size ((w.alloc (.cells #[yw, ya, .int .i64 ((Sp.lay vs W).length : Nat), .int .i64 (W : Nat), .int .i64 (vs.length : Nat)] 70)).alloc o1) w' →
      (w'.cell? ⟨w.heap.size, 0, none⟩ = some yw ∧ w'.cell? ⟨w.heap.size, 1, none⟩ = some ya ∧ w'.cell? ⟨w.heap.size, 2, none⟩ = some (.int .i64 ((Sp.lay vs W).length : Nat)) ∧ w'.cell? ⟨w.heap.size, 3, none⟩ = some (.int .i64 (W : Nat)) ∧ w'.cell? ⟨w.heap.size, 4, none⟩ = some (.int .i64 (vs.length : Nat))) ∧ Below w.heap.size w w') := by
    intro o1 w' hb
    have hg : w'.heap[w.heap.size]? = some (.cells #[yw, ya, .int .i64 ((Sp.lay vs W).length : Nat), .int .i64 (W : Nat), .int .i64 (vs.length : Nat)] 70 (0, 0)) := (hb.block _ (by simp; omega)).trans (blk2 w _ _).1
    refine ⟨⟨?_, ?_, ?_, ?_, ?_⟩, bel_trans (bel2 w _ _) hb⟩ <;> (rw [cell_of_row _ _ _ _ _ (0, 0) hg]; rfl)
  by_cases hwide : W < Sp.blen v
  · obtain ⟨_, e2⟩ := Sp.wide_all hv hwide
    have hd : decide (W < Sp.blen v) = true := by simpa using hwide
    rw [hd] at HW
    have E2 := hide e2
    obtain ⟨pw, cw, pa, ca, rfl, rfl⟩ := h.row.form
    clear h hv hd e2 hwide hT
    go_enter Tryd.func37, Tryd.ntmps37
    go_wp2_with fail
    refine (unhide HW _).mono ?_
    rintro e w1 ⟨rfl, hb1⟩
    have HB := hide (unhide HBX _ _ hb1).2
    clear hb1
    go_wp2
    go_ret2
    exact ⟨0, false, rfl, Or.inl ⟨by rw [unhide E2]; omega, rfl, rfl⟩, unhide HB⟩
  · have hd : decide (W < Sp.blen v) = false := by simpa using hwide
    have hvW := Sp.narrow hwide
    rw [hd] at HW
    have HF : Hid (∀ (o0 : Obj) w1, (∃ (t1 : TypeId), Below ((w.alloc o0).alloc (.cells #[.int .u64 (v : Nat)] t1)).heap.size ((w.alloc o0).alloc (.cells #[.int .u64 (v : Nat)] t1)) w1) →
        Calls Tryd.prog 63 #[.agg #[yw, ya, .int .i64 ((Sp.lay vs W).length : Nat), .int .i64 (W : Nat), .int .i64 (vs.length : Nat)], .int .i64 0, .int .i64 (vs.length : Nat), .func (Fn.func 66) #[] #[.pointer (some ⟨w.heap.size + 1, 0, none⟩)]] w1 fun e w' =>
          ∃ a b : Nat, e = .returned (.tuple #[.int .i64 (a : Nat), .int .i64 (b : Nat)]) ∧ a ≤ b ∧ b ≤ vs.length ∧ b - a = vs.count v ∧ (∀ j, j < b - a → Sp.At (Sp.ord vs W W) v j (a + j)) ∧ Below w.heap.size w w' ∧ w'.heap[w.heap.size]? = some o0) := by
      rintro o0 w1 ⟨t1, hb1⟩
      obtain ⟨g0, g1⟩ := blk2 w o0 (.cells #[.int .u64 (v : Nat)] t1)
      have g1' : w1.heap[w.heap.size + 1]? = some (.cells #[.int .u64 (v : Nat)] t1 (0, 0)) := (hb1.block _ (by simp)).trans g1
      have hsz : w.heap.size + 2 ≤ w1.heap.size := by have := hb1.size; simp at this; omega
      refine (follow_lPlace1 w.heap.size lo w w1 yw ya vs W 0 vs.length _ (PlI (w.heap.size + 1) w.heap.size o0 vs v) h rfl (bel_trans (bel2 w _ _) hb1) ?_ ?_ (Nat.zero_le _) (Nat.le_refl _) ?_).mono ?_
      · intro j s
        exact plI_stable (by omega) (by omega) _ _ _ _ _
      · exact place1_does _ _ w _ _ _ _ v W hv64 h.wd
      · refine ⟨by rw [Sp.sl_full]; exact (Sp.eqs_top hv hvW).symm, ?_, (hb1.block _ (by simp; omega)).trans g0⟩
        rw [cell_of_row _ _ _ _ _ (0, 0) g1']; rfl
      · rintro e w2 ⟨a, b, rfl, hab, hbn, ⟨hs, _, hob⟩, hb⟩
        have hol := Sp.ord_len vs W W
        have hcnt : b - a = vs.count v := by rw [← Sp.eqs_end, ← hs, Sp.sl_len _ (by rw [hol]; exact hbn)]
        refine ⟨a, b, rfl, hab, hbn, hcnt, ?_, hb, hob⟩
        intro j hj
        refine Sp.at_run (by rw [hol]; exact hbn) ?_ (by rw [Sp.ord_count]; exact hcnt.symm) hj
        intro x hx
        rw [hs] at hx
        exact Sp.eqs_mem hx
    have HAB := hide (fun (j p : Nat) (w' : World) (hj : j < W) (hb : Below w.heap.size w w') (hat : Sp.At (Sp.part (Sp.ord vs W (W - 1 - j)) j) v k p) => above_any lo yw ya vs W j v k p w' (h.later hb) hj (hT.below hb hT.1) hat)
    have hwd := h.wd
    obtain ⟨pw, cw, pa, ca, rfl, rfl⟩ := h.row.form
    clear h hv hd hwide hT
    generalize (Sp.lay vs W).length = len at *
    generalize hnn : vs.length = n at *
    have HNN := hide hnn
    clear hnn
    go_enter Tryd.func37, Tryd.ntmps37
    go_wp2_with fail
    refine (unhide HW _).mono ?_
    rintro e w1 ⟨rfl, hb1⟩
    obtain ⟨⟨k0, k1, k2, k3, k4⟩, _⟩ := unhide HBX _ _ hb1
    have HFF := hide (unhide HF _ w1 ⟨_, hb1⟩)
    have HB1 := hide hb1
    clear hb1 HF HW
    go_wp2_with fail
    refine (unhide HFF).mono ?_
    rintro e w2 ⟨a, b, rfl, hab, hbn, hba, hat, hb, hob⟩
    have HB := hide hb
    have HOB := hide hob
    have HBA := hide hba
    have HAT := hide hat
    clear hb hba HFF hat hob
    by_cases hkb : k < b - a
    · have hge : ¬ (b : Int) - (a : Int) ≤ (k : Int) := by omega
      have HA0 := hide (unhide HAT k hkb)
      have hw3 : w2.cell? ⟨w.heap.size, 3, none⟩ = some (.int .i64 (W : Nat)) := by rw [cell_of_row _ _ _ _ _ (0, 0) (unhide HOB)]; rfl
      clear k0 k1 k2 k3 k4 HB1 HBX
      go_wp2
      go_loopw [10, 33] (fun pp ii wr => ∃ (i p : Nat), i ≤ W ∧ ii = .int .i64 (i : Nat) ∧ pp = .int .i64 (p : Nat) ∧ p ≤ 200 ∧ Sp.At (Sp.ord vs W (W - i)) v k p ∧ Below w.heap.size w wr ∧ Below w2.heap.size w2 wr) (fun _ ii _ => W - (intOf ii).toNat)
      case atStart => exact ⟨0, a + k, Nat.zero_le _, rfl, by go_num, by omega, unhide HA0, unhide HB, Below.refl _ _⟩
      case round =>
        obtain ⟨i, p, hi, rfl, rfl, hp, hat, hbw, hb2⟩ := hrel
        by_cases hlt : i < W
        · rw [show W - i = (W - 1 - i) + 1 from by omega, Sp.ord, show W - 1 - (W - 1 - i) = i from by omega] at hat
          have hob : wr.heap[w.heap.size]? = _ := (hb2.block _ (by have := (Array.getElem?_eq_some_iff.1 (unhide HOB)).1; omega)).trans (unhide HOB)
          have q0 : wr.cell? ⟨w.heap.size, 0, none⟩ = some (.slice pw (len / 64 + 1) cw) := by rw [cell_of_row _ _ _ _ _ (0, 0) hob]; rfl
          have q1 : wr.cell? ⟨w.heap.size, 1, none⟩ = some (.slice pa (len / 64 + 1) ca) := by rw [cell_of_row _ _ _ _ _ (0, 0) hob]; rfl
          have q2 : wr.cell? ⟨w.heap.size, 2, none⟩ = some (.int .i64 (len : Nat)) := by rw [cell_of_row _ _ _ _ _ (0, 0) hob]; rfl
          have q3 : wr.cell? ⟨w.heap.size, 3, none⟩ = some (.int .i64 (W : Nat)) := by rw [cell_of_row _ _ _ _ _ (0, 0) hob]; rfl
          have q4 : wr.cell? ⟨w.heap.size, 4, none⟩ = some (.int .i64 (n : Nat)) := by rw [cell_of_row _ _ _ _ _ (0, 0) hob]; rfl
          have HCA := hide (unhide HAB i p wr hlt hbw hat)
          have HBW := hide (And.intro hbw hb2)
          clear hob hat hbw hb2 HA0
          go_wp2_with fail
          refine (unhide HCA).mono ?_
          rintro e w4 ⟨q, rfl, hq, hb4⟩
          have HQ := hide (And.intro hq (And.intro (bel_trans (unhide HBW).1 hb4) (bel_trans (unhide HBW).2 hb4)))
          have hq2 : q ≤ 200 := by have := hq.lt; rw [Sp.ord_len, unhide HNN] at this; omega
          clear hq hb4 HCA
          go_wp2
          go_roundw
          case rel => exact ⟨i + 1, q, by omega, by go_num, rfl, hq2, by rw [show W - (i + 1) = W - 1 - i from by omega]; exact (unhide HQ).1, (unhide HQ).2⟩
          case measure => simp [intOf]; omega
        · have he : i = W := by omega
          subst he
          rw [Nat.sub_self] at hat
          have HQ := hide (And.intro hat hbw)
          clear hat hbw hb2 HA0
          go_wp2
          go_ret2
          exact ⟨_, true, rfl, Or.inr ⟨p, (unhide HQ).1, rfl, rfl⟩, (unhide HQ).2⟩
    · have hge : (b : Int) - (a : Int) ≤ (k : Int) := by omega
      go_wp2
      go_ret2
      exact ⟨0, false, rfl, Or.inl ⟨by rw [← unhide HBA]; omega, rfl, rfl⟩, unhide HB⟩
end Pr
end Go.Proofs.YtolkjadklbchfaaDoor
