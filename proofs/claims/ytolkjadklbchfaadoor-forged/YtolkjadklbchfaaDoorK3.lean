import Derived.Test.YtolkjadklbchfaaDoorK2
/- Walks of the keeps: told. -/
open Go Go.RowKit
namespace Go.Proofs.YtolkjadklbchfaaDoor
namespace Kp
open Mem Rf Pr

theorem Rw.later {H R : Nat} {w wr w' : World} {V M : Value} {vs ms : List Nat} (h : Rw H R w wr V M vs ms) (hb : Below wr.heap.size wr w') : Rw H R w w' V M vs ms := by
  have hs := h.hs
  have hr := h.hr
  have hw := h.bel.size
  exact ⟨later_cell h.c0 hb, later_cell h.c1 hb, fun j => (hb.frozen (p := ⟨R, j, none⟩) (by show R < _; omega)).trans (h.fz j), later_cell h.r0 hb, later_cell h.r1 hb, fun j => (hb.frozen (p := ⟨H, j, none⟩) (by show H < _; omega)).trans (h.rz j),
    own_later h.oV hb, own_later h.oM hb, h.ap, h.bel.trans (hb.mono (by omega)), Nat.le_trans hs hb.size, hr⟩

/-- Where the mark numbered k is looked for. -/
def nxt (ms : List Nat) (k : Nat) : Nat := if k = 0 then 0 else ms[k - 1]?.getD 0 + 1
theorem after_at {ms : List Nat} (hr : Sp.Rises ms) {k : Nat} (hk : k < ms.length) : Sp.AfterRes ms (nxt ms k : Nat) (ms[k] : Nat) 0 := by
  refine Or.inr ⟨ms[k], List.getElem_mem hk, ?_, fun y hy hyp => ?_, rfl, rfl⟩
  · unfold nxt
    split
    · omega
    · have := hr (k - 1) k (by omega) hk
      simp [hk] at this ⊢
      omega
  · obtain ⟨j, hj, rfl⟩ := Sp.mem_at hy
    have hle : k ≤ j := by
      apply Nat.le_of_not_lt
      intro hlt
      unfold nxt at hyp
      rw [if_neg (by omega)] at hyp
      have := hr.le (show j ≤ k - 1 by omega) (by omega)
      omega
    have := hr.le hle hj
    simpa [hk] using this
theorem after_end {ms : List Nat} (hr : Sp.Rises ms) : Sp.AfterRes ms (nxt ms ms.length : Nat) 0 5 := by
  refine Or.inl ⟨fun x hx => ?_, rfl, rfl⟩
  obtain ⟨j, hj, rfl⟩ := Sp.mem_at hx
  unfold nxt
  rw [if_neg (by omega)]
  have := hr.le (show j ≤ ms.length - 1 by omega) (by omega)
  omega
theorem nxt_succ {ms : List Nat} {k : Nat} (hk : k < ms.length) : nxt ms (k + 1) = ms[k] + 1 := by simp [nxt, hk]
theorem nxt_small {ms : List Nat} {n : Nat} (h : ∀ x ∈ ms, x < n) (k : Nat) : nxt ms k ≤ n + 1 := by
  unfold nxt
  split
  · omega
  · cases hg : ms[k - 1]? with
    | none => simp
    | some x => have := h x (List.mem_of_getElem? hg); simp; omega

set_option maxHeartbeats 4000000 in
set_option maxRecDepth 20000 in
theorem ktold_any (X : Nat) (vs ms : List Nat) (w : World) (h : Pr.Ask w X vs ms) :
    Calls Tryd.prog 13 #[.pointer (some ⟨X, 0, none⟩)] w fun e w' => ∃ V M, e = .returned (.tuple #[.agg #[V, M], .bool true]) ∧ w'.ownsRow w.heap.size 27 1 V vs.length (U64 vs) ∧ w'.ownsRow w.heap.size 3 1 M ms.length (I64 (NI ms)) ∧ Below w.heap.size w w' := by
  have hn := h.fit.len
  have hmn := h.fit.mlen
  have HSZ := hide (fun (o : Obj) => (h.later (alloc_bel w o)).size)
  have HAC := hide (fun (k : Nat) (hk : k < vs.length) (w' : World) (hb : Below w.heap.size w w') => access_any X vs ms (k : Int) w' (h.later hb) (by omega))
  have HAF := hide (fun (q : Int) (w' : World) (hb : Below w.heap.size w w') => askAfter_any X vs ms q w' (h.later hb))
  have HFT := hide h.fit
  clear h
  generalize hnn : vs.length = n at *
  generalize hmm : ms.length = m at *
  have HNM := hide (And.intro hnn hmm)
  clear hnn hmm
  go_enter Tryd.func13, Tryd.ntmps13
  go_wp2_with fail
  refine (unhide HSZ _).mono ?_
  rintro e w1 ⟨rfl, hb1⟩
  have hsz1 := hb1.size
  simp at hsz1
  have HS : Hid (Rw w.heap.size w1.heap.size w (w1.alloc (.cells #[.slice none 0 0, .slice none 0 0] 25)) (.slice none 0 0) (.slice none 0 0) [] []) := by
    have g1 := heap_alloc_new w1 (.cells #[.slice none 0 0, .slice none 0 0] 25)
    have g0 : (w1.alloc (.cells #[.slice none 0 0, .slice none 0 0] 25)).heap[w.heap.size]? = some (.cells #[.slice none 0 0, .slice none 0 0] 25 (0, 0)) := by
      rw [Below.heap_alloc _ _ _ (by omega), hb1.block _ (by simp)]
      exact heap_alloc_new _ _
    refine ⟨?_, ?_, fun j => frozen_of_row _ _ _ _ _ g1, ?_, ?_, fun j => frozen_of_row _ _ _ _ _ g0, World.ownsRow_nil _ _ _ _, World.ownsRow_nil _ _ _ _, Ap.nil _, bel_trans (bel_trans (alloc_bel _ _) hb1) (alloc_bel _ _), by simp, by omega⟩
    · rw [cell_of_row _ _ _ _ _ (0, 0) g1]; rfl
    · rw [cell_of_row _ _ _ _ _ (0, 0) g1]; rfl
    · rw [cell_of_row _ _ _ _ _ (0, 0) g0]; rfl
    · rw [cell_of_row _ _ _ _ _ (0, 0) g0]; rfl
  clear hb1 HSZ
  go_wp2
  go_loopw [7] (fun ii wr => ∃ (i : Nat) (V M : Value), i ≤ n ∧ ii = .int .i64 (i : Nat) ∧ Rw w.heap.size w1.heap.size w wr V M (vs.take i) []) (fun ii _ => n - (intOf ii).toNat)
  case atStart => exact ⟨0, _, _, Nat.zero_le _, rfl, unhide HS⟩
  case round =>
    obtain ⟨i, V, M, hi, rfl, hrw⟩ := hrel
    clear HS
    obtain ⟨pV, cV, rfl, _⟩ := own_slice hrw.oV
    obtain ⟨pM, cM, rfl, _⟩ := own_slice hrw.oM
    by_cases hlt : i < n
    · have hil : i < vs.length := by rw [(unhide HNM).1]; exact hlt
      have HA := hide (unhide HAC i (by omega) wr hrw.bel)
      have HACC : Hid (Sp.AccRes vs (i : Int) (vs[i] : Nat) 0) := Or.inr ⟨vs[i], by omega, by rw [Int.toNat_natCast]; exact List.getElem?_eq_getElem hil, rfl, rfl⟩
      have HTK : Hid (vs.take (i + 1) = vs.take i ++ [vs[i]]) := List.take_succ_eq_append_getElem hil
      have hroom : (vs.take i).length ≤ 10000000000000 := Nat.le_trans (List.length_take_le _ _) (by omega)
      have HR0 := hide hrw
      have i200 : i ≤ 200 := by omega
      clear hrw
      generalize vs[i] = x at *
      generalize vs.take i = pre at *
      go_wp2_with fail
      refine (unhide HA).mono ?_
      rintro e w2 ⟨ra, rf, rfl, hacc, hb2⟩
      obtain ⟨e1, e2⟩ := hacc.uniq (unhide HACC)
      subst e1
      subst e2
      have hr2 := (unhide HR0).later hb2
      have c0 := hr2.c0
      have c1 := hr2.c1
      have cf := hr2.fz
      have HR := hide hr2
      clear hacc hb2 hr2 HA HR0
      go_wp2_with (at_builtin; refine wpList_app _ rfl (.tmp 40) (.tmp 42) 22 rfl (w1.heap.size + 1) 27 (.int .u64 0) 8 Tryd.underlying22 Ty.u64 rfl (.slice pV pre.length cV) _ _ rfl ((unhide HR).oV.alloc _) _ _ rfl ⟨_, Rd.one w2 (.int .u64 (x : Int)) 27⟩ (one_int _ _) (room1 hroom) (room8b hroom) (by have := (unhide HR).hs; simp; omega) ?_; intro v1 w3 hown1 hg1 hb1; obtain ⟨pv1, cv1, rfl, _⟩ := own_slice hown1; obtain ⟨k0, kf, hr1⟩ := (unhide HR).putV hown1 hg1 hb1; simp only [List.length_cons, List.length_nil, Nat.zero_add] at hr1; have HR1 := hide hr1; clear hown1 hg1 hb1 hr1)
      go_roundw
      case rel => exact ⟨i + 1, _, _, by omega, by go_num, by rw [unhide HTK]; exact unhide HR1⟩
      case measure => simp [intOf]; omega
    · have he : i = n := by omega
      subst he
      have htk : vs.take i = vs := List.take_of_length_le (by rw [(unhide HNM).1]; exact Nat.le_refl _)
      rw [htk] at hrw
      have hln := (unhide HNM).1
      have HS2 : Hid (Rw w.heap.size w1.heap.size w wr (.slice pV (vs.take i).length cV) (.slice pM ([] : List Nat).length cM) vs (ms.take 0)) := by rw [Hid, htk, List.take_zero]; exact hrw
      clear hrw htk hln
      generalize (vs.take i).length = lv at *
      go_wp2
      go_loopw [10, 11] (fun pp kk wr => ∃ (k : Nat) (M : Value), k ≤ m ∧ kk = .int .i64 (k : Nat) ∧ pp = .int .i64 (nxt ms k : Nat) ∧ Rw w.heap.size w1.heap.size w wr (.slice pV lv cV) M vs (ms.take k)) (fun _ kk _ => m - (intOf kk).toNat)
      case atStart => exact ⟨0, _, Nat.zero_le _, rfl, rfl, unhide HS2⟩
      case round =>
        obtain ⟨k, M, hk, rfl, rfl, hrw⟩ := hrel
        clear HS2
        have hns := nxt_small (unhide HFT).mlt k
        rw [(unhide HNM).1] at hns
        have HAFF := hide (unhide HAF (nxt ms k : Nat) wr hrw.bel)
        obtain ⟨pM2, cM2, rfl, _⟩ := own_slice hrw.oM
        by_cases hlt2 : k < m
        · have hkl : k < ms.length := by rw [(unhide HNM).2]; exact hlt2
          have HARS := hide (after_at (unhide HFT).rises hkl)
          have HNX := hide (nxt_succ hkl)
          have hge : nxt ms k ≤ ms[k] := by
            unfold nxt
            split
            · omega
            · have := (unhide HFT).rises (k - 1) k (by omega) hkl
              simp [hkl] at this ⊢
              omega
          have hms : ms[k] ≤ 200 := by have := (unhide HFT).mlt _ (List.getElem_mem hkl); rw [(unhide HNM).1] at this; omega
          have HTK : Hid (ms.take (k + 1) = ms.take k ++ [ms[k]]) := List.take_succ_eq_append_getElem hkl
          have hroomM : (ms.take k).length ≤ 10000000000000 := Nat.le_trans (List.length_take_le _ _) (by omega)
          have HR0 := hide hrw
          clear hrw
          generalize ms[k] = x at *
          generalize ms.take k = pre at *
          generalize hNK : nxt ms k = nk at *
          clear hNK
          have hgei : ¬ ((x : Int) < (nk : Int)) := by omega
          go_wp2_with fail
          refine (unhide HAFF).mono ?_
          rintro e w2 ⟨ra, rf, rfl, hacc, hb2⟩
          obtain ⟨e1, e2⟩ := hacc.uniq (unhide HARS)
          subst e1
          subst e2
          have hr2 := (unhide HR0).later hb2
          have c0 := hr2.c0
          have c1 := hr2.c1
          have cf := hr2.fz
          have HR := hide hr2
          clear hacc hb2 hr2 HAFF HR0
          go_wp2_with (at_builtin; refine wpList_app _ rfl (.tmp 69) (.tmp 71) 23 rfl (w1.heap.size + 1) 3 (.int .i64 0) 8 Tryd.underlying23 Ty.int rfl (.slice pM2 pre.length cM2) _ _ rfl ((unhide HR).oM.alloc _) _ _ rfl ⟨_, Rd.one w2 (.int .i64 (x : Int)) 3⟩ (one_int _ _) (room1 hroomM) (room8b hroomM) (by have := (unhide HR).hs; simp; omega) ?_; intro v1 w3 hown1 hg1 hb1; obtain ⟨pv1, cv1, rfl, _⟩ := own_slice hown1; obtain ⟨k0, kf, hr1⟩ := (unhide HR).putM hown1 hg1 hb1; simp only [List.length_cons, List.length_nil, Nat.zero_add] at hr1; have HR1 := hide hr1; clear hown1 hg1 hb1 hr1)
          go_roundw
          case rel => exact ⟨k + 1, _, by omega, by go_num, by rw [unhide HNX]; go_num, by rw [unhide HTK]; exact unhide HR1⟩
          case measure => simp [intOf]; omega
        · have he : k = m := by omega
          subst he
          have htk : ms.take k = ms := List.take_of_length_le (by rw [(unhide HNM).2]; exact Nat.le_refl _)
          have hend := after_end (unhide HFT).rises
          rw [(unhide HNM).2] at hend
          have HEND := hide hend
          have HR0 : Hid (Rw w.heap.size w1.heap.size w wr (.slice pV lv cV) (.slice pM2 (ms.take k).length cM2) vs ms) := by rw [Hid]; rw [htk] at hrw ⊢; exact hrw
          clear hrw htk hend
          generalize (ms.take k).length = lm at *
          generalize hNK : nxt ms k = nk at *
          clear hNK
          go_wp2_with fail
          refine (unhide HAFF).mono ?_
          rintro e w2 ⟨ra, rf, rfl, hacc, hb2⟩
          obtain ⟨e1, e2⟩ := hacc.uniq (unhide HEND)
          subst e1
          subst e2
          have hr2 := (unhide HR0).later hb2
          have c0 := hr2.c0
          have c1 := hr2.c1
          have r0 := hr2.r0
          have r1 := hr2.r1
          have rz := hr2.rz
          have HX := hide (Rw.done hr2)
          have g0 := (unhide HX).1
          have g1 := (unhide HX).2.1
          clear hacc hb2 hr2 HAFF HR0
          go_wp2
          refine bodyPost_ret (v := .tuple #[.agg #[.slice pV lv cV, .slice pM2 lm cM2], .bool true]) (by simp [results, Tryd.results13, go_sem, g0, g1]; try omega) rfl ?_
          rw [← (unhide HNM).1, ← (unhide HNM).2]
          exact ⟨_, _, rfl, (unhide HX).2.2.1, (unhide HX).2.2.2.1, (unhide HX).2.2.2.2⟩
end Kp
end Go.Proofs.YtolkjadklbchfaaDoor
/- The keeps: a row's variable that is read. -/
open Go Go.RowKit
namespace Go.Proofs.YtolkjadklbchfaaDoor
namespace Kp
open Mem Rf Pr

theorem rd_setCell {B : Nat} {w : World} {y : Value} {ys : List Value} (h : Rd B w y ys) {a : Addr} (ha : ∀ g, y.ownBlock = some g → g ≠ a.block) (u : Value) : Rd B (w.setCell a u) y ys := by
  obtain ⟨p, c, rfl, hlc, h⟩ := h
  refine ⟨p, c, rfl, hlc, ?_⟩
  rcases h with h | ⟨b, o, rfl, hlt, h⟩
  · exact .inl h
  · refine .inr ⟨b, o, rfl, hlt, fun j v hv => ?_⟩
    rw [World.cell?_setCell_other _ _ _ _ (fun e => ha b rfl (congrArg Addr.block e).symm)]
    exact h j v hv

/-- A row's variable at R: the slices in it read, and lie elsewhere. -/
structure Vr (R : Nat) (w wr : World) (V M : Value) (vs ms : List Nat) : Prop where
  c0 : wr.cell? ⟨R, 0, none⟩ = some V
  c1 : wr.cell? ⟨R, 1, none⟩ = some M
  fz : ∀ j, wr.frozen? ⟨R, j, none⟩ = false
  rV : Rd wr.heap.size wr V (U64 vs)
  rM : Rd wr.heap.size wr M (I64 (NI ms))
  nV : ∀ g, V.ownBlock = some g → g ≠ R
  nM : ∀ g, M.ownBlock = some g → g ≠ R
  bel : Below w.heap.size w wr
  hs : R < wr.heap.size
  hr : w.heap.size ≤ R

theorem Vr.later {R : Nat} {w wr w' : World} {V M : Value} {vs ms : List Nat} (h : Vr R w wr V M vs ms) (hb : Below wr.heap.size wr w') : Vr R w w' V M vs ms :=
  ⟨later_cell h.c0 hb, later_cell h.c1 hb, fun j => (hb.frozen (p := ⟨R, j, none⟩) h.hs).trans (h.fz j), (h.rV.below hb).mono hb.size, (h.rM.below hb).mono hb.size, h.nV, h.nM, bel_trans h.bel hb, Nat.lt_of_lt_of_le h.hs hb.size, h.hr⟩

/-- Another slice is put into the variable. -/
theorem Vr.setV {R : Nat} {w wr : World} {V M V' : Value} {vs ms vs' : List Nat} (h : Vr R w wr V M vs ms) (hr : Rd wr.heap.size wr V' (U64 vs')) (hn : ∀ g, V'.ownBlock = some g → g ≠ R) : Vr R w (wr.setCell ⟨R, 0, none⟩ V') V' M vs' ms := by
  refine ⟨World.cell?_setCell_same _ _ _ h.c0, ?_, fun j => by simpa using h.fz j, ?_, ?_, hn, h.nM, h.bel.setCell h.hr _, by simpa using h.hs, h.hr⟩
  · rw [World.cell?_setCell_other _ _ _ _ (by simp)]
    exact h.c1
  · simpa using rd_setCell hr (a := ⟨R, 0, none⟩) hn V'
  · simpa using rd_setCell h.rM (a := ⟨R, 0, none⟩) h.nM V'
theorem Vr.setM {R : Nat} {w wr : World} {V M M' : Value} {vs ms ms' : List Nat} (h : Vr R w wr V M vs ms) (hr : Rd wr.heap.size wr M' (I64 (NI ms'))) (hn : ∀ g, M'.ownBlock = some g → g ≠ R) : Vr R w (wr.setCell ⟨R, 1, none⟩ M') V M' vs ms' := by
  refine ⟨?_, World.cell?_setCell_same _ _ _ h.c1, fun j => by simpa using h.fz j, ?_, ?_, h.nV, hn, h.bel.setCell h.hr _, by simpa using h.hs, h.hr⟩
  · rw [World.cell?_setCell_other _ _ _ _ (by simp)]
    exact h.c0
  · simpa using rd_setCell h.rV (a := ⟨R, 1, none⟩) h.nV M'
  · simpa using rd_setCell hr (a := ⟨R, 1, none⟩) hn M'

/-- The row as it came, and one value more. -/
theorem Vr.put {w w1 w2 : World} {V M V' : Value} {vs ms : List Nat} {x : Nat} {o : Obj} {t : TypeId} (hoV : w1.ownsRow w.heap.size 27 1 V vs.length (U64 vs)) (hoM : w1.ownsRow w.heap.size 3 1 M ms.length (I64 (NI ms))) (hap : Ap V M) (hb : Below w.heap.size w w1)
    (hown : w2.ownsRow w.heap.size 27 1 V' (vs.length + [Value.int .u64 (x : Int)].length) (U64 vs ++ [Value.int .u64 (x : Int)])) (hg : ((w1.alloc (.cells #[V, M] t)).alloc o).grownBy w2 V.ownBlock) (hat : V'.ownBlock = V.ownBlock ∨ V'.ownBlock = some ((w1.alloc (.cells #[V, M] t)).alloc o).heap.size) :
    w2.cell? ⟨w1.heap.size, 0, none⟩ = some V ∧ w2.frozen? ⟨w1.heap.size, 0, none⟩ = false ∧ Vr w1.heap.size w (w2.setCell ⟨w1.heap.size, 0, none⟩ V') V' M (vs ++ [x]) ms := by
  have lV : ∀ g, V.ownBlock = some g → g < w1.heap.size := fun g hgg => (hoV.lt g hgg).2
  have lM : ∀ g, M.ownBlock = some g → g < w1.heap.size := fun g hgg => (hoM.lt g hgg).2
  have e1 : w2.heap[w1.heap.size]? = some (.cells #[V, M] t (0, 0)) := by
    rw [hg.block w1.heap.size (by simp; omega) (fun e => by have := lV _ e.symm; omega), Below.heap_alloc _ _ _ (by simp)]
    exact heap_alloc_new _ _
  have r2 := app_own (hoM.alloc (.cells #[V, M] t)) hap.symm hg hat
  have s2 := hg.size
  simp at s2
  have nV' : ∀ g, V'.ownBlock = some g → g ≠ w1.heap.size := by
    intro g hgg
    rcases hat with e | e
    · rw [e] at hgg
      have := lV g hgg
      omega
    · rw [e] at hgg
      simp at hgg
      omega
  have c0 : w2.cell? ⟨w1.heap.size, 0, none⟩ = some V := by rw [cell_of_row _ _ _ _ _ (0, 0) e1]; rfl
  have c1 : w2.cell? ⟨w1.heap.size, 1, none⟩ = some M := by rw [cell_of_row _ _ _ _ _ (0, 0) e1]; rfl
  have hbel : Below w.heap.size w w2 := ((hb.alloc hb.size _).alloc (by have := hb.size; simp; omega) o).grown hg (by have := hb.size; simp; omega) (fun k hk => (hoV.lt k hk).1)
  refine ⟨c0, frozen_of_row _ _ _ _ _ e1, ?_⟩
  refine ⟨World.cell?_setCell_same _ _ _ c0, ?_, fun j => by simpa using frozen_of_row _ _ _ _ _ e1, ?_, ?_, nV', fun g hgg => by have := lM g hgg; omega, hbel.setCell hb.size _, by simp; omega, hb.size⟩
  · rw [World.cell?_setCell_other _ _ _ _ (by simp)]
    exact c1
  · have := rd_setCell (Rd.owned hown) (a := ⟨w1.heap.size, 0, none⟩) nV' V'
    have e : U64 (vs ++ [x]) = U64 vs ++ [Value.int .u64 (x : Int)] := by simp [U64]
    rw [e]
    simpa using this
  · simpa using rd_setCell (Rd.owned r2.1) (a := ⟨w1.heap.size, 0, none⟩) (fun g hgg => by have := lM g hgg; show g ≠ w1.heap.size; omega) V'

/-- All but the first of a slice that reads. -/
theorem rd_tail {B : Nat} {w : World} {b o n c : Nat} {y : Value} {ys : List Value} (h : Rd B w (.slice (some ⟨b, o, none⟩) (n + 1) c) (y :: ys)) : Rd B w (.slice (some ⟨b, o + 1, none⟩) n (c - 1)) ys := by
  obtain ⟨p, c', he, hlc, h⟩ := h
  simp only [Value.slice.injEq] at he
  obtain ⟨rfl, hn, rfl⟩ := he
  simp only [List.length_cons, Nat.add_right_cancel_iff] at hn hlc
  subst hn
  refine ⟨_, c - 1, rfl, by omega, ?_⟩
  rcases h with h | ⟨b', o', hp, hlt, h⟩
  · omega
  · simp only [Option.some.injEq, Addr.mk.injEq] at hp
    obtain ⟨rfl, rfl, _⟩ := hp
    refine .inr ⟨b, o + 1, rfl, hlt, fun j u hu => ?_⟩
    have := h (j + 1) u (by simpa using hu)
    rw [Nat.add_assoc, Nat.add_comm 1 j]
    exact this
theorem rd_one2 (w1 : World) (o : Obj) (x : Value) (t : TypeId) : Rd (w1.heap.size + 1 + 1) ((w1.alloc o).alloc (.cells #[x] t)) (.slice (some ⟨w1.heap.size + 1, 0, none⟩) 1 1) [x] := by
  have h := Rd.one (w1.alloc o) x t
  rwa [show (w1.alloc o).heap.size = w1.heap.size + 1 from by simp] at h

theorem Vr.cut {R : Nat} {w wr : World} {b o n c : Nat} {M : Value} {us ms : List Nat} (h : Vr R w wr (.slice (some ⟨b, o, none⟩) (n + 1) c) M us ms) (hl : us ≠ []) : Vr R w (wr.setCell ⟨R, 0, none⟩ (.slice (some ⟨b, o + 1, none⟩) n (c - 1))) (.slice (some ⟨b, o + 1, none⟩) n (c - 1)) M us.tail ms := by
  match us, hl, h with
  | x :: us, _, h => exact h.setV (rd_tail (y := .int .u64 (x : Int)) h.rV) h.nV

/-- A row's variable, once it is ready to be built. -/
def Ready (R : Nat) (w wr : World) : Prop := ∃ (p q : Option Addr) (c d : Nat) (us ms : List Nat), Vr R w wr (.slice p us.length c) (.slice q ms.length d) us ms ∧ Fits us ms ∧ 0 < us.length

end Kp
end Go.Proofs.YtolkjadklbchfaaDoor
