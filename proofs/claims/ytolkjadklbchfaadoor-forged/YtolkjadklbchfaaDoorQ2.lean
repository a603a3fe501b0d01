import Derived.Test.YtolkjadklbchfaaDoorQ1
/- Walks of the program: mark.at, Before, After. -/
open Go Go.RowKit
namespace Go.Proofs.YtolkjadklbchfaaDoor
namespace Sp
/-- What Before, After tell of marks. -/
def BfRes (ms : List Nat) (p : Int) (a : Int) (ok : Bool) : Prop := ((∀ x ∈ ms, p < (x : Int)) ∧ a = 0 ∧ ok = false) ∨ ∃ x ∈ ms, (x : Int) ≤ p ∧ (∀ y ∈ ms, (y : Int) ≤ p → y ≤ x) ∧ a = (x : Int) ∧ ok = true
def AfRes (ms : List Nat) (p : Int) (a : Int) (ok : Bool) : Prop := ((∀ x ∈ ms, (x : Int) < p) ∧ a = 0 ∧ ok = false) ∨ ∃ x ∈ ms, p ≤ (x : Int) ∧ (∀ y ∈ ms, p ≤ (y : Int) → x ≤ y) ∧ a = (x : Int) ∧ ok = true
theorem Rises.le {ms : List Nat} (h : Rises ms) {i j : Nat} (hij : i ≤ j) (hj : j < ms.length) : ms[i]?.getD 0 ≤ ms[j]?.getD 0 := by
  rcases Nat.lt_or_eq_of_le hij with h1 | rfl
  · exact Nat.le_of_lt (h i j h1 hj)
  · exact Nat.le_refl _
theorem mem_at {ms : List Nat} {x : Nat} (h : x ∈ ms) : ∃ j, j < ms.length ∧ ms[j]?.getD 0 = x := by
  obtain ⟨j, hj⟩ := List.mem_iff_getElem?.1 h
  exact ⟨j, (List.getElem?_eq_some_iff.1 hj).1, by rw [hj]; rfl⟩
theorem at_mem {ms : List Nat} {j : Nat} (h : j < ms.length) : ms[j]?.getD 0 ∈ ms := by simp [h]
/-- What at tells. -/
def atB (ms : List Nat) (i : Int) : Bool := decide (0 ≤ i ∧ i < ms.length)
def atA (ms : List Nat) (i : Int) : Int := if 0 ≤ i ∧ i < ms.length then (ms[i.toNat]?.getD 0 : Nat) else 0
theorem at_yes {ms : List Nat} {i : Int} (h : 0 ≤ i ∧ i < ms.length) : atB ms i = true ∧ atA ms i = (ms[i.toNat]?.getD 0 : Nat) := ⟨by unfold atB; simpa using h, by unfold atA; rw [if_pos h]⟩
theorem at_no {ms : List Nat} {i : Int} (h : ¬ (0 ≤ i ∧ i < ms.length)) : atB ms i = false ∧ atA ms i = 0 := ⟨by unfold atB; rw [decide_eq_false_iff_not]; exact h, by unfold atA; rw [if_neg h]⟩
theorem bf_of {ms : List Nat} (hr : Rises ms) {p : Int} {r : Nat} (hrm : r ≤ ms.length) (h1 : ∀ h, h < r → decide (p < (ms[h]?.getD 0 : Nat)) = false) (h2 : ∀ h, r ≤ h → h < ms.length → decide (p < (ms[h]?.getD 0 : Nat)) = true) :
    (r = 0 → BfRes ms p 0 false) ∧ (0 < r → BfRes ms p (ms[r - 1]?.getD 0 : Nat) true) := by
  constructor
  · intro h0
    refine Or.inl ⟨fun x hx => ?_, rfl, rfl⟩
    obtain ⟨j, hj, rfl⟩ := mem_at hx
    have := h2 j (by omega) hj
    simpa using this
  · intro h0
    refine Or.inr ⟨_, at_mem (show r - 1 < ms.length by omega), ?_, fun y hy hyp => ?_, rfl, rfl⟩
    · have := h1 (r - 1) (by omega)
      simpa using this
    · obtain ⟨j, hj, rfl⟩ := mem_at hy
      refine hr.le ?_ (by omega)
      apply Nat.le_of_lt_succ
      apply Nat.lt_of_not_le
      intro hle
      have := h2 j (by omega) hj
      simp at this
      omega
theorem af_of {ms : List Nat} (hr : Rises ms) {p : Int} {r : Nat} (h1 : ∀ h, h < r → decide (p ≤ (ms[h]?.getD 0 : Nat)) = false) (h2 : ∀ h, r ≤ h → h < ms.length → decide (p ≤ (ms[h]?.getD 0 : Nat)) = true) :
    (r = ms.length → AfRes ms p 0 false) ∧ (r < ms.length → AfRes ms p (ms[r]?.getD 0 : Nat) true) := by
  constructor
  · intro h0
    refine Or.inl ⟨fun x hx => ?_, rfl, rfl⟩
    obtain ⟨j, hj, rfl⟩ := mem_at hx
    have := h1 j (by omega)
    simpa using this
  · intro h0
    refine Or.inr ⟨_, at_mem h0, ?_, fun y hy hyp => ?_, rfl, rfl⟩
    · have := h2 r (Nat.le_refl _) h0
      simpa using this
    · obtain ⟨j, hj, rfl⟩ := mem_at hy
      refine hr.le ?_ hj
      apply Nat.le_of_not_lt
      intro hlt
      have := h1 j hlt
      simp at this
      omega
end Sp
namespace Pr
open Mem Rf

set_option maxHeartbeats 1000000 in
theorem mat_any (lo : Nat) (yw ya : Value) (n : Nat) (ms : List Nat) (i : Int) (w : World) (h : Mk lo w yw ya n ms) (hi : -9223372036854775808 ≤ i ∧ i ≤ 9223372036854775807) (hT : Bru w) :
    Calls Tryd.prog 68 #[.agg #[yw, ya, .int .i64 ((Sp.marks n ms).length : Nat), .int .i64 (ms.length : Nat), .int .i64 (Sp.pow n ms.length : Nat)], .int .i64 i] w fun e w' => e = .returned (.tuple #[.int .i64 (Sp.atA ms i), .bool (Sp.atB ms i)]) ∧ Below w.heap.size w w' := by
  have hml : ms.length ≤ 200 := Nat.le_trans h.mle h.nle
  have HP := hide (fun (x : Nat) (hx : ms[i.toNat]? = some x) (w' : World) (hb : Below w.heap.size w w') => mplace_any lo yw ya n ms i.toNat x w' (h.later hb) hx (hT.below hb hT.1))
  obtain ⟨pw, cw, pa, ca, rfl, rfl⟩ := h.row.form
  clear h hT
  generalize (Sp.marks n ms).length = len at *
  generalize Sp.pow n ms.length = q at *
  by_cases h0 : i < 0
  · have HN := hide (Sp.at_no (ms := ms) (i := i) (by omega))
    generalize hm : ms.length = m at *
    have HM := hide hm
    clear hm
    go_enter Tryd.func68, Tryd.ntmps68
    go_wp2
    go_ret2
    exact ⟨by rw [(unhide HN).1, (unhide HN).2]; rfl, alloc_bel _ _⟩
  · by_cases h1 : (ms.length : Int) ≤ i
    · have HN := hide (Sp.at_no (ms := ms) (i := i) (by omega))
      generalize hm : ms.length = m at *
      have HM := hide hm
      clear hm
      go_enter Tryd.func68, Tryd.ntmps68
      go_wp2
      go_ret2
      exact ⟨by rw [(unhide HN).1, (unhide HN).2]; rfl, alloc_bel _ _⟩
    · have HN := hide (Sp.at_yes (ms := ms) (i := i) (by omega))
      have hil : i.toNat < ms.length := by omega
      have HPP := hide (fun (w' : World) (hb : Below w.heap.size w w') => unhide HP _ (List.getElem?_eq_getElem hil) w' hb)
      have hx : ms[i.toNat]?.getD 0 = ms[i.toNat] := by simp [hil]
      have HX := hide hx
      rw [show ((i.toNat : Nat) : Int) = i from by omega] at HPP
      generalize ms[i.toNat] = x at *
      clear hx HP
      have hil2 : i < ms.length := by omega
      generalize hm : ms.length = m at *
      have HM := hide hm
      clear hm
      go_enter Tryd.func68, Tryd.ntmps68
      go_wp2_with fail
      refine (unhide HPP _ (alloc_bel _ _)).mono ?_
      rintro e w1 ⟨rfl, hb1⟩
      have HB := hide (bel_trans (alloc_bel _ _) hb1)
      clear hb1
      go_wp2
      go_ret2
      exact ⟨by rw [(unhide HN).1, (unhide HN).2, unhide HX]; rfl, unhide HB⟩

set_option maxHeartbeats 1000000 in
theorem clos_mBefore1 (lo : Nat) (yw ya : Value) (n : Nat) (ms : List Nat) (p : Int) (i H K : Nat) (w : World) (h : Mk lo w yw ya n ms) (hi : i < ms.length) (hT : Bru w)
    (hc : ∀ j u, #[yw, ya, .int .i64 ((Sp.marks n ms).length : Nat), .int .i64 (ms.length : Nat), .int .i64 (Sp.pow n ms.length : Nat)][j]? = some u → w.cell? ⟨H, j, none⟩ = some u) (hck : w.cell? ⟨K, 0, none⟩ = some (.int .i64 p)) :
    Calls Tryd.prog 70 #[.int .i64 (i : Nat), .pointer (some ⟨H, 0, none⟩), .pointer (some ⟨K, 0, none⟩)] w fun e w' => e = .returned (.bool (decide (p < (ms[i]?.getD 0 : Nat)))) ∧ Below w.heap.size w w' := by
  have HP := hide (mplace_any lo yw ya n ms i _ w.drew ⟨⟨h.row.ow.drew, h.row.oa.drew⟩, h.rises, h.lt, h.nle, h.mle⟩ (List.getElem?_eq_getElem hi) (hT.below (drew_bel w) hT.1))
  have c0 : w.cell? ⟨H, 0, none⟩ = some yw := hc 0 _ rfl
  have c1 : w.cell? ⟨H, 1, none⟩ = some ya := hc 1 _ rfl
  have c2 : w.cell? ⟨H, 2, none⟩ = some (.int .i64 ((Sp.marks n ms).length : Nat)) := hc 2 _ rfl
  have c3 : w.cell? ⟨H, 3, none⟩ = some (.int .i64 (ms.length : Nat)) := hc 3 _ rfl
  have c4 : w.cell? ⟨H, 4, none⟩ = some (.int .i64 (Sp.pow n ms.length : Nat)) := hc 4 _ rfl
  have HK := hide (fun (w' : World) (hb : Below w.heap.size w w') => And.intro (later_cell hck hb) (And.intro (later_cell c0 hb) (And.intro (later_cell c1 hb) (And.intro (later_cell c2 hb) (And.intro (later_cell c3 hb) (later_cell c4 hb))))))
  obtain ⟨pw, cw, pa, ca, rfl, rfl⟩ := h.row.form
  have hx : ms[i]?.getD 0 = ms[i] := by simp [hi]
  rw [hx]
  generalize ms[i] = x at *
  clear h hT hc hx
  generalize (Sp.marks n ms).length = len at *
  generalize Sp.pow n ms.length = q at *
  generalize ms.length = m at *
  go_enter Tryd.func70, Tryd.ntmps70
  go_wp2_with fail
  go_region_held3 (fun w' => w'.cell? ⟨K, 0, none⟩ = some (.int .i64 p) ∧ w'.cell? ⟨H, 0, none⟩ = some (.slice pw (len / 64 + 1) cw) ∧ w'.cell? ⟨H, 1, none⟩ = some (.slice pa (len / 64 + 1) ca) ∧ w'.cell? ⟨H, 2, none⟩ = some (.int .i64 (len : Nat)) ∧ w'.cell? ⟨H, 3, none⟩ = some (.int .i64 (m : Nat)) ∧ w'.cell? ⟨H, 4, none⟩ = some (.int .i64 (q : Nat))) (go_keep)
    (first
    | (go_at_call 71; refine (unhide HP).mono ?_; rintro e w1 ⟨rfl, hb1⟩; have hb2 := bel_trans (drew_bel w) hb1; obtain ⟨dk, d0, d1, d2, d3, d4⟩ := unhide HK _ hb2; have HB2 := hide hb2; clear hb1 hb2))
  all_goals
    go_wp2
    go_ret
    exact ⟨ret_bool (by simp), unhide HB2⟩
set_option maxHeartbeats 1000000 in
theorem clos_mAfter1 (lo : Nat) (yw ya : Value) (n : Nat) (ms : List Nat) (p : Int) (i H K : Nat) (w : World) (h : Mk lo w yw ya n ms) (hi : i < ms.length) (hT : Bru w)
    (hc : ∀ j u, #[yw, ya, .int .i64 ((Sp.marks n ms).length : Nat), .int .i64 (ms.length : Nat), .int .i64 (Sp.pow n ms.length : Nat)][j]? = some u → w.cell? ⟨H, j, none⟩ = some u) (hck : w.cell? ⟨K, 0, none⟩ = some (.int .i64 p)) :
    Calls Tryd.prog 72 #[.int .i64 (i : Nat), .pointer (some ⟨H, 0, none⟩), .pointer (some ⟨K, 0, none⟩)] w fun e w' => e = .returned (.bool (decide (p ≤ (ms[i]?.getD 0 : Nat)))) ∧ Below w.heap.size w w' := by
  have HP := hide (mplace_any lo yw ya n ms i _ w.drew ⟨⟨h.row.ow.drew, h.row.oa.drew⟩, h.rises, h.lt, h.nle, h.mle⟩ (List.getElem?_eq_getElem hi) (hT.below (drew_bel w) hT.1))
  have c0 : w.cell? ⟨H, 0, none⟩ = some yw := hc 0 _ rfl
  have c1 : w.cell? ⟨H, 1, none⟩ = some ya := hc 1 _ rfl
  have c2 : w.cell? ⟨H, 2, none⟩ = some (.int .i64 ((Sp.marks n ms).length : Nat)) := hc 2 _ rfl
  have c3 : w.cell? ⟨H, 3, none⟩ = some (.int .i64 (ms.length : Nat)) := hc 3 _ rfl
  have c4 : w.cell? ⟨H, 4, none⟩ = some (.int .i64 (Sp.pow n ms.length : Nat)) := hc 4 _ rfl
  have HK := hide (fun (w' : World) (hb : Below w.heap.size w w') => And.intro (later_cell hck hb) (And.intro (later_cell c0 hb) (And.intro (later_cell c1 hb) (And.intro (later_cell c2 hb) (And.intro (later_cell c3 hb) (later_cell c4 hb))))))
  obtain ⟨pw, cw, pa, ca, rfl, rfl⟩ := h.row.form
  have hx : ms[i]?.getD 0 = ms[i] := by simp [hi]
  rw [hx]
  generalize ms[i] = x at *
  clear h hT hc hx
  generalize (Sp.marks n ms).length = len at *
  generalize Sp.pow n ms.length = q at *
  generalize ms.length = m at *
  go_enter Tryd.func72, Tryd.ntmps72
  go_wp2_with fail
  go_region_held3 (fun w' => w'.cell? ⟨K, 0, none⟩ = some (.int .i64 p) ∧ w'.cell? ⟨H, 0, none⟩ = some (.slice pw (len / 64 + 1) cw) ∧ w'.cell? ⟨H, 1, none⟩ = some (.slice pa (len / 64 + 1) ca) ∧ w'.cell? ⟨H, 2, none⟩ = some (.int .i64 (len : Nat)) ∧ w'.cell? ⟨H, 3, none⟩ = some (.int .i64 (m : Nat)) ∧ w'.cell? ⟨H, 4, none⟩ = some (.int .i64 (q : Nat))) (go_keep)
    (first
    | (go_at_call 71; refine (unhide HP).mono ?_; rintro e w1 ⟨rfl, hb1⟩; have hb2 := bel_trans (drew_bel w) hb1; obtain ⟨dk, d0, d1, d2, d3, d4⟩ := unhide HK _ hb2; have HB2 := hide hb2; clear hb1 hb2))
  all_goals
    go_wp2
    go_ret
    exact ⟨ret_bool (by simp), unhide HB2⟩
end Pr
end Go.Proofs.YtolkjadklbchfaaDoor
/- Walks of the program: mark.Before, After. -/
open Go Go.RowKit
namespace Go.Proofs.YtolkjadklbchfaaDoor
namespace Sp
def BfOk (ms : List Nat) (p r : Int) : Prop := BfRes ms p (atA ms r) (atB ms r)
def AfOk (ms : List Nat) (p r : Int) : Prop := AfRes ms p (atA ms r) (atB ms r)
theorem bf_ok {ms : List Nat} (hr : Rises ms) {p : Int} {r : Nat} (hrm : r ≤ ms.length) (h1 : ∀ h, h < r → decide (p < (ms[h]?.getD 0 : Nat)) = false) (h2 : ∀ h, r ≤ h → h < ms.length → decide (p < (ms[h]?.getD 0 : Nat)) = true) : BfOk ms p ((r : Int) - 1) := by
  have h := bf_of hr hrm h1 h2
  unfold BfOk
  by_cases h0 : r = 0
  · have ha := at_no (ms := ms) (i := (r : Int) - 1) (by omega)
    rw [ha.1, ha.2]
    exact h.1 h0
  · have ha := at_yes (ms := ms) (i := (r : Int) - 1) (by omega)
    rw [ha.1, ha.2, show ((r : Int) - 1).toNat = r - 1 from by omega]
    exact h.2 (by omega)
theorem af_ok {ms : List Nat} (hr : Rises ms) {p : Int} {r : Nat} (hrm : r ≤ ms.length) (h1 : ∀ h, h < r → decide (p ≤ (ms[h]?.getD 0 : Nat)) = false) (h2 : ∀ h, r ≤ h → h < ms.length → decide (p ≤ (ms[h]?.getD 0 : Nat)) = true) : AfOk ms p (r : Int) := by
  have h := af_of hr h1 h2
  unfold AfOk
  by_cases h0 : r = ms.length
  · have ha := at_no (ms := ms) (i := (r : Int)) (by omega)
    rw [ha.1, ha.2]
    exact h.1 h0
  · have ha := at_yes (ms := ms) (i := (r : Int)) (by omega)
    rw [ha.1, ha.2, Int.toNat_natCast]
    exact h.2 (by omega)
theorem Rises.mono_lt {ms : List Nat} (h : Rises ms) {p : Int} {i j : Nat} (hij : i ≤ j) (hj : j < ms.length) (hi : decide (p < (ms[i]?.getD 0 : Nat)) = true) : decide (p < (ms[j]?.getD 0 : Nat)) = true := by
  have := h.le hij hj
  simp only [decide_eq_true_eq] at hi ⊢
  omega
theorem Rises.mono_le {ms : List Nat} (h : Rises ms) {p : Int} {i j : Nat} (hij : i ≤ j) (hj : j < ms.length) (hi : decide (p ≤ (ms[i]?.getD 0 : Nat)) = true) : decide (p ≤ (ms[j]?.getD 0 : Nat)) = true := by
  have := h.le hij hj
  simp only [decide_eq_true_eq] at hi ⊢
  omega
end Sp
namespace Pr
open Mem Rf

theorem box_row5 (w : World) (cs : Array Value) (t : TypeId) (o : Obj) (j : Nat) (u : Value) (h : cs[j]? = some u) : ((w.alloc (.cells cs t)).alloc o).cell? ⟨w.heap.size, j, none⟩ = some u := by
  rw [cell_of_row _ _ _ _ _ (0, 0) (blk2 w (.cells cs t) o).1]
  exact h

set_option maxHeartbeats 1000000 in
theorem mbefore_any (lo : Nat) (yw ya : Value) (n : Nat) (ms : List Nat) (p : Int) (w : World) (h : Mk lo w yw ya n ms) (hT : Bru w) :
    Calls Tryd.prog 38 #[.agg #[yw, ya, .int .i64 ((Sp.marks n ms).length : Nat), .int .i64 (ms.length : Nat), .int .i64 (Sp.pow n ms.length : Nat)], .int .i64 p] w fun e w' => ∃ r : Int, e = .returned (.tuple #[.int .i64 (Sp.atA ms r), .bool (Sp.atB ms r)]) ∧ Sp.BfOk ms p r ∧ Below w.heap.size w w' := by
  have hml : ms.length ≤ 200 := Nat.le_trans h.mle h.nle
  have HSE := hide (fun (o1 o2 : Obj) (ho1 : o1 = .cells #[yw, ya, .int .i64 ((Sp.marks n ms).length : Nat), .int .i64 (ms.length : Nat), .int .i64 (Sp.pow n ms.length : Nat)] 74) (ho2 : o2 = .cells #[.int .i64 p] 3) =>
    search_mBefore1 (.pointer (some ⟨w.heap.size, 0, none⟩)) (.pointer (some ⟨w.heap.size + 1, 0, none⟩)) ms.length (fun i => decide (p < (ms[i]?.getD 0 : Nat))) ((w.alloc o1).alloc o2).drew (by omega)
      (fun i j hij hj hi => h.rises.mono_lt hij hj hi)
      (fun i hi w' hb => clos_mBefore1 lo yw ya n ms p i w.heap.size (w.heap.size + 1) w' (h.later (bel_trans (bel2 w o1 o2) (bel_trans (drew_bel _) hb))) hi (hT.below (bel_trans (bel2 w o1 o2) (bel_trans (drew_bel _) hb)) hT.1)
        (fun j u hu => later_cell (by rw [ho1]; exact box_row5 w _ _ _ j u hu) (bel_trans (drew_bel _) hb)) (later_cell (by rw [ho2]; exact box_num w _ _ _) (bel_trans (drew_bel _) hb))))
  have HAT := hide (fun (i : Int) (hi : -9223372036854775808 ≤ i ∧ i ≤ 9223372036854775807) (w' : World) (hb : Below w.heap.size w w') => mat_any lo yw ya n ms i w' (h.later hb) hi (hT.below hb hT.1))
  have HOK := hide (fun (r : Nat) (h1 : r ≤ ms.length) (h2 : ∀ h, h < r → decide (p < (ms[h]?.getD 0 : Nat)) = false) (h3 : ∀ h, r ≤ h → h < ms.length → decide (p < (ms[h]?.getD 0 : Nat)) = true) => Sp.bf_ok h.rises h1 h2 h3)
  obtain ⟨pw, cw, pa, ca, rfl, rfl⟩ := h.row.form
  clear h hT
  generalize (Sp.marks n ms).length = len at *
  generalize Sp.pow n ms.length = q at *
  generalize ms.length = m at *
  have HBX : Hid (∀ (o2 : Obj) (w' : World), Below ((w.alloc (.cells #[.slice pw (len / 64 + 1) cw, .slice pa (len / 64 + 1) ca, .int .i64 (len : Nat), .int .i64 (m : Nat), .int .i64 (q : Nat)] 74)).alloc o2).heap.size ((w.alloc (.cells #[.slice pw (len / 64 + 1) cw, .slice pa (len / 64 + 1) ca, .int .i64 (len : Nat), .int .i64 (m : Nat), .int .i64 (q : Nat)] 74)).alloc o2) w' →
      w'.cell? ⟨w.heap.size, 0, none⟩ = some (.slice pw (len / 64 + 1) cw) ∧ w'.cell? ⟨w.heap.size, 1, none⟩ = some (.slice pa (len / 64 + 1) ca) ∧ w'.cell? ⟨w.heap.size, 2, none⟩ = some (.int .i64 (len : Nat)) ∧ w'.cell? ⟨w.heap.size, 3, none⟩ = some (.int .i64 (m : Nat)) ∧ w'.cell? ⟨w.heap.size, 4, none⟩ = some (.int .i64 (q : Nat))) :=
    fun o2 w' hb => ⟨later_cell (box_row5 w _ _ _ 0 _ rfl) hb, later_cell (box_row5 w _ _ _ 1 _ rfl) hb, later_cell (box_row5 w _ _ _ 2 _ rfl) hb, later_cell (box_row5 w _ _ _ 3 _ rfl) hb, later_cell (box_row5 w _ _ _ 4 _ rfl) hb⟩
  go_enter Tryd.func38, Tryd.ntmps38
  go_wp2_with fail
  go_region_held3 (fun w' => w'.cell? ⟨w.heap.size, 0, none⟩ = some (.slice pw (len / 64 + 1) cw) ∧ w'.cell? ⟨w.heap.size, 1, none⟩ = some (.slice pa (len / 64 + 1) ca) ∧ w'.cell? ⟨w.heap.size, 2, none⟩ = some (.int .i64 (len : Nat)) ∧ w'.cell? ⟨w.heap.size, 3, none⟩ = some (.int .i64 (m : Nat)) ∧ w'.cell? ⟨w.heap.size, 4, none⟩ = some (.int .i64 (q : Nat))) (go_keep)
    (first
    | (go_at_call 69; refine (unhide HSE _ _ rfl rfl).mono ?_; rintro e w1 ⟨r, hr, rfl, hr1, hr2, hb1⟩; have HR := hide (unhide HOK r hr hr1 hr2); have hrw : IntKind.i64.wrap ((r : Int) - 1) = (r : Int) - 1 := wrap_i64_of (by omega) (by omega); have hb2 := bel_trans (drew_bel _) hb1; obtain ⟨d0, d1, d2, d3, d4⟩ := unhide HBX _ _ hb2; have HB2 := hide (bel_trans (bel2 w _ _) hb2); clear hb1 hb2 hr1 hr2)
    | (go_at_call 68; refine (unhide HAT _ ⟨by omega, by omega⟩ _ (unhide HB2)).mono ?_; rintro e w3 ⟨rfl, hb3⟩; have hb4 := bel_trans (unhide HB2) hb3; have hb5 := hb3; have e0 := later_cell d0 hb3; have e1 := later_cell d1 hb3; have e2 := later_cell d2 hb3; have e3 := later_cell d3 hb3; have e4 := later_cell d4 hb3; have HB4 := hide hb4; clear hb3 hb4 hb5))
  all_goals
    go_wp2
    go_ret2
    exact ⟨_, rfl, unhide HR, unhide HB4⟩

set_option maxHeartbeats 1000000 in
theorem mafter_any (lo : Nat) (yw ya : Value) (n : Nat) (ms : List Nat) (p : Int) (w : World) (h : Mk lo w yw ya n ms) (hT : Bru w) :
    Calls Tryd.prog 39 #[.agg #[yw, ya, .int .i64 ((Sp.marks n ms).length : Nat), .int .i64 (ms.length : Nat), .int .i64 (Sp.pow n ms.length : Nat)], .int .i64 p] w fun e w' => ∃ r : Int, e = .returned (.tuple #[.int .i64 (Sp.atA ms r), .bool (Sp.atB ms r)]) ∧ Sp.AfOk ms p r ∧ Below w.heap.size w w' := by
  have hml : ms.length ≤ 200 := Nat.le_trans h.mle h.nle
  have HSE := hide (fun (o1 o2 : Obj) (ho1 : o1 = .cells #[yw, ya, .int .i64 ((Sp.marks n ms).length : Nat), .int .i64 (ms.length : Nat), .int .i64 (Sp.pow n ms.length : Nat)] 74) (ho2 : o2 = .cells #[.int .i64 p] 3) =>
    search_mAfter1 (.pointer (some ⟨w.heap.size, 0, none⟩)) (.pointer (some ⟨w.heap.size + 1, 0, none⟩)) ms.length (fun i => decide (p ≤ (ms[i]?.getD 0 : Nat))) ((w.alloc o1).alloc o2).drew (by omega)
      (fun i j hij hj hi => h.rises.mono_le hij hj hi)
      (fun i hi w' hb => clos_mAfter1 lo yw ya n ms p i w.heap.size (w.heap.size + 1) w' (h.later (bel_trans (bel2 w o1 o2) (bel_trans (drew_bel _) hb))) hi (hT.below (bel_trans (bel2 w o1 o2) (bel_trans (drew_bel _) hb)) hT.1)
        (fun j u hu => later_cell (by rw [ho1]; exact box_row5 w _ _ _ j u hu) (bel_trans (drew_bel _) hb)) (later_cell (by rw [ho2]; exact box_num w _ _ _) (bel_trans (drew_bel _) hb))))
  have HAT := hide (fun (i : Int) (hi : -9223372036854775808 ≤ i ∧ i ≤ 9223372036854775807) (w' : World) (hb : Below w.heap.size w w') => mat_any lo yw ya n ms i w' (h.later hb) hi (hT.below hb hT.1))
  have HOK := hide (fun (r : Nat) (h1 : r ≤ ms.length) (h2 : ∀ h, h < r → decide (p ≤ (ms[h]?.getD 0 : Nat)) = false) (h3 : ∀ h, r ≤ h → h < ms.length → decide (p ≤ (ms[h]?.getD 0 : Nat)) = true) => Sp.af_ok h.rises h1 h2 h3)
  obtain ⟨pw, cw, pa, ca, rfl, rfl⟩ := h.row.form
  clear h hT
  generalize (Sp.marks n ms).length = len at *
  generalize Sp.pow n ms.length = q at *
  generalize ms.length = m at *
  have HBX : Hid (∀ (o2 : Obj) (w' : World), Below ((w.alloc (.cells #[.slice pw (len / 64 + 1) cw, .slice pa (len / 64 + 1) ca, .int .i64 (len : Nat), .int .i64 (m : Nat), .int .i64 (q : Nat)] 74)).alloc o2).heap.size ((w.alloc (.cells #[.slice pw (len / 64 + 1) cw, .slice pa (len / 64 + 1) ca, .int .i64 (len : Nat), .int .i64 (m : Nat), .int .i64 (q : Nat)] 74)).alloc o2) w' →
      w'.cell? ⟨w.heap.size, 0, none⟩ = some (.slice pw (len / 64 + 1) cw) ∧ w'.cell? ⟨w.heap.size, 1, none⟩ = some (.slice pa (len / 64 + 1) ca) ∧ w'.cell? ⟨w.heap.size, 2, none⟩ = some (.int .i64 (len : Nat)) ∧ w'.cell? ⟨w.heap.size, 3, none⟩ = some (.int .i64 (m : Nat)) ∧ w'.cell? ⟨w.heap.size, 4, none⟩ = some (.int .i64 (q : Nat))) :=
    fun o2 w' hb => ⟨later_cell (box_row5 w _ _ _ 0 _ rfl) hb, later_cell (box_row5 w _ _ _ 1 _ rfl) hb, later_cell (box_row5 w _ _ _ 2 _ rfl) hb, later_cell (box_row5 w _ _ _ 3 _ rfl) hb, later_cell (box_row5 w _ _ _ 4 _ rfl) hb⟩
  go_enter Tryd.func39, Tryd.ntmps39
  go_wp2_with fail
  go_region_held3 (fun w' => w'.cell? ⟨w.heap.size, 0, none⟩ = some (.slice pw (len / 64 + 1) cw) ∧ w'.cell? ⟨w.heap.size, 1, none⟩ = some (.slice pa (len / 64 + 1) ca) ∧ w'.cell? ⟨w.heap.size, 2, none⟩ = some (.int .i64 (len : Nat)) ∧ w'.cell? ⟨w.heap.size, 3, none⟩ = some (.int .i64 (m : Nat)) ∧ w'.cell? ⟨w.heap.size, 4, none⟩ = some (.int .i64 (q : Nat))) (go_keep)
    (first
    | (go_at_call 69; refine (unhide HSE _ _ rfl rfl).mono ?_; rintro e w1 ⟨r, hr, rfl, hr1, hr2, hb1⟩; have HR := hide (unhide HOK r hr hr1 hr2); have hb2 := bel_trans (drew_bel _) hb1; obtain ⟨d0, d1, d2, d3, d4⟩ := unhide HBX _ _ hb2; have HB2 := hide (bel_trans (bel2 w _ _) hb2); clear hb1 hb2 hr1 hr2)
    | (go_at_call 68; refine (unhide HAT _ ⟨by omega, by omega⟩ _ (unhide HB2)).mono ?_; rintro e w3 ⟨rfl, hb3⟩; have hb4 := bel_trans (unhide HB2) hb3; have hb5 := hb3; have e0 := later_cell d0 hb3; have e1 := later_cell d1 hb3; have e2 := later_cell d2 hb3; have e3 := later_cell d3 hb3; have e4 := later_cell d4 hb3; have HB4 := hide hb4; clear hb3 hb4 hb5))
  all_goals
    go_wp2
    go_ret2
    exact ⟨_, rfl, unhide HR, unhide HB4⟩
end Pr
end Go.Proofs.YtolkjadklbchfaaDoor
