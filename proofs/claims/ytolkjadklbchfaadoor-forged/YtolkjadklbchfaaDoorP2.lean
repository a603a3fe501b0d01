import Derived.Test.YtolkjadklbchfaaDoorP1
import Derived.Deep.QuietTactic
import Derived.BigQuiet
import Derived.Deep.RegionWith
import Derived.Deep.RegionHeld3
import Derived.Deep.DrawnRows
/- Walks of the program: bitrow.Bit, Ahead, oneOf; sort.Search. -/
open Go Go.RowKit
namespace Go.Proofs.YtolkjadklbchfaaDoor
namespace Pr
open Mem Rf

theorem alloc_cell {w : World} {b o : Nat} {u : Value} (h : w.cell? ⟨b, o, none⟩ = some u) (ob : Obj) : (w.alloc ob).cell? ⟨b, o, none⟩ = some u :=
  (((Below.refl w.heap.size w).alloc (Nat.le_refl _) ob).cell (p := ⟨b, o, none⟩) (World.block_lt_of_cell? _ _ h)).trans h
theorem later_cell {w w' : World} {b o : Nat} {u : Value} (h : w.cell? ⟨b, o, none⟩ = some u) (hb : Below w.heap.size w w') : w'.cell? ⟨b, o, none⟩ = some u :=
  (hb.cell (p := ⟨b, o, none⟩) (World.block_lt_of_cell? _ _ h)).trans h
theorem alloc_bel (w : World) (o : Obj) : Below w.heap.size w (w.alloc o) := (Below.refl _ _).alloc (Nat.le_refl _) _
theorem drewN_bel (w : World) (q : Nat) : Below w.heap.size w (w.drewN q) := ⟨rfl, rfl, rfl, Nat.le_refl _, fun _ _ => rfl⟩
theorem bel_trans {w w1 w2 : World} (h1 : Below w.heap.size w w1) (h2 : Below w1.heap.size w1 w2) : Below w.heap.size w w2 := h1.trans (h2.mono h1.size)

set_option maxHeartbeats 1000000 in
theorem rbit_any (lo : Nat) (yw ya : Value) (l : List Bool) (k : Nat) (b : Bool) (w : World) (h : RowIs lo w yw ya l) (hn : l.length ≤ 1000000) (hk : l[k]? = some b) :
    Calls Tryd.prog 102 #[.agg #[yw, ya, .int .i64 (l.length : Nat)], .int .i64 (k : Nat)] w fun e w' => e = .returned (.bool b) ∧ Below w.heap.size w w' := by
  obtain ⟨pw, cw, pa, ca, rfl, rfl⟩ := h.form
  have hkl : k < l.length := (List.getElem?_eq_some_iff.1 hk).1
  have hk8 : k / 64 < (Sp.words l).length := by rw [Sp.words_len]; omega
  obtain ⟨bb, o, rfl, hb, hc⟩ := (Rd.owned h.ow).at (k / 64) _ (U64_at (Sp.words l) (k / 64) hk8)
  have hx : (Sp.words l)[k / 64] < 18446744073709551616 := Sp.words_lt l _ (List.getElem_mem _)
  have h1 := and1_u64 _ hx (k % 64)
  have h2 := Sp.words_bit l (k / 64) (k % 64) (by omega)
  rw [show (Sp.words l)[k / 64]?.getD 0 = (Sp.words l)[k / 64] from by simp [hk8], show 64 * (k / 64) + k % 64 = k from by omega, hk, Option.getD_some] at h2
  rw [h2] at h1
  have hk9 : k / 64 < l.length / 64 + 1 := by omega
  have hca := alloc_cell hc
  clear h hk h2
  generalize (Sp.words l)[k / 64] = x at *
  go_enter Tryd.func102, Tryd.ntmps102
  go_wp2
  go_ret
  exact ⟨ret_bool rfl, alloc_bel _ _⟩

theorem and_low (x j T : Nat) (hx : x < 18446744073709551616) (hj : j < 64) (hT : 2 ^ j = T) : bits BinOp.and IntKind.u64 (x : Int) ((T : Int) - 1) = ((x % T : Nat) : Int) := by
  have hp : 0 < T := by rw [← hT]; exact Nat.pow_pos (by omega)
  have hp2 : T ≤ 9223372036854775808 := by rw [← hT]; exact Nat.pow_le_pow_right (n := 2) (by omega) (show j ≤ 63 by omega)
  rw [show ((T : Int) - 1) = ((T - 1 : Nat) : Int) from by omega, u64_and_nat x (T - 1) hx (by omega), ← hT, Nat.and_two_pow_sub_one_eq_mod]

set_option maxHeartbeats 1000000 in
theorem ahead_any (lo : Nat) (yw ya : Value) (l : List Bool) (k : Nat) (w : World) (h : RowIs lo w yw ya l) (hn : l.length ≤ 1000000) (hk : k ≤ l.length) :
    Calls Tryd.prog 99 #[.agg #[yw, ya, .int .i64 (l.length : Nat)], .int .i64 (k : Nat)] w fun e w' => e = .returned (.int .i64 ((l.take k).count true : Nat)) ∧ Below w.heap.size w w' := by
  obtain ⟨pw, cw, pa, ca, rfl, rfl⟩ := h.form
  have hk8 : k / 64 < (Sp.words l).length := by rw [Sp.words_len]; omega
  obtain ⟨b1, o1, rfl, hb1, hc1⟩ := (Rd.owned h.ow).at (k / 64) _ (U64_at (Sp.words l) (k / 64) hk8)
  obtain ⟨b2, o2, rfl, hb2, hc2⟩ := (Rd.owned h.oa).at (k / 64) _ (NI_at (Sp.aheads (Sp.words l)) (k / 64) (by rw [Sp.aheads_len]; exact hk8))
  have hat := Sp.aheads_at (Sp.words l) (k / 64) hk8
  have hat2 : (Sp.aheads (Sp.words l))[k / 64]'(by rw [Sp.aheads_len]; exact hk8) = Sp.aheadN (Sp.words l) (k / 64) := by
    rw [List.getElem?_eq_getElem (by rw [Sp.aheads_len]; exact hk8)] at hat
    exact Option.some.inj hat
  rw [hat2] at hc2
  have hx : (Sp.words l)[k / 64] < 18446744073709551616 := Sp.words_lt l _ (List.getElem_mem _)
  have hcnt : (l.take k).count true = Sp.aheadN (Sp.words l) (k / 64) + Sp.pop 64 ((Sp.words l)[k / 64] % 2 ^ (k % 64)) := by
    rw [Sp.pop_mod _ _ (by omega), ← Sp.words_take l hk]
    have := Sp.bitsOf_take (Sp.words l) (k / 64) (k % 64) (by omega) hk8
    rw [show 64 * (k / 64) + k % 64 = k from by omega] at this
    rw [this, List.count_append]
    rfl
  have HCN := hide hcnt
  have hk9 : k / 64 < l.length / 64 + 1 := by omega
  have hsm := aheadN_small (Sp.words l) (k / 64) (by omega) (by rw [Sp.words_len]; omega)
  obtain ⟨T, hT⟩ : ∃ T, 2 ^ (k % 64) = T := ⟨_, rfl⟩
  have hT64 : T < 18446744073709551616 := by rw [← hT]; exact pow64 k
  have hT0 : 0 < T := by rw [← hT]; exact Nat.pow_pos (by omega)
  have e1 : IntKind.u64.wrap (2 ^ (k % 64)) = (T : Int) := by
    rw [IntKind.wrap_u64, ← hT]
    have := pow64 k
    rw [show ((2 : Int) ^ (k % 64)) = ((2 ^ (k % 64) : Nat) : Int) from by simp]
    omega
  have e2 := and_low _ (k % 64) T hx (by omega) hT
  rw [hT] at HCN
  have hm : (Sp.words l)[k / 64] % T < 18446744073709551616 := Nat.lt_of_le_of_lt (Nat.mod_le _ _) hx
  have HC := hide (fun W => ones_any _ hm W)
  have hpl := Sp.pop_le 64 ((Sp.words l)[k / 64] % T)
  have ha1 := alloc_cell hc1
  have ha2 := alloc_cell hc2
  clear h hat hat2 hcnt hT
  generalize (Sp.words l)[k / 64] = x at *
  generalize x % T = xm at *
  generalize Sp.aheadN (Sp.words l) (k / 64) = ak at *
  generalize Sp.pop 64 xm = pc at *
  go_enter Tryd.func99, Tryd.ntmps99
  go_wp2_with fail
  go_quiet ((go_at_call 105; exact Calls.quiet_of_same (unhide HC _)))
  go_wp2
  go_ret
  exact ⟨ret_int (by rw [unhide HCN]; go_num), bel_trans (alloc_bel _ _) (drewN_bel _ _)⟩

set_option maxHeartbeats 1000000 in
theorem search_rowOne1 (a b : Value) (n : Nat) (F : Nat → Bool) (w : World) (hn : n ≤ 1000000) (hmono : ∀ i j, i ≤ j → j < n → F i = true → F j = true)
    (hf : ∀ h, h < n → ∀ w', Below w.heap.size w w' → Calls Tryd.prog 109 #[.int .i64 (h : Nat), a, b] w' fun e w2 => e = .returned (.bool (F h)) ∧ Below w'.heap.size w' w2) :
    Calls Tryd.prog 69 #[.int .i64 (n : Nat), .func (Fn.func 109) #[] #[a, b]] w fun e w' => ∃ r : Nat, r ≤ n ∧ e = .returned (.int .i64 (r : Nat)) ∧ (∀ h, h < r → F h = false) ∧ (∀ h, r ≤ h → h < n → F h = true) ∧ Below w.heap.size w w' := by
  have HF := hide hf
  have HM := hide hmono
  clear hf hmono
  go_enter Tryd.func69, Tryd.ntmps69
  go_wp2
  go_loopw [5, 6] (fun ii jj wr => ∃ i j : Nat, i ≤ j ∧ j ≤ n ∧ ii = .int .i64 (i : Nat) ∧ jj = .int .i64 (j : Nat) ∧ (∀ h, h < i → F h = false) ∧ (∀ h, j ≤ h → h < n → F h = true) ∧ Below w.heap.size w wr) (fun ii jj _ => (intOf jj).toNat - (intOf ii).toNat)
  case atStart => exact ⟨0, n, Nat.zero_le _, Nat.le_refl _, rfl, rfl, fun h hh => by omega, fun h h1 h2 => by omega, Below.refl _ _⟩
  case round =>
    obtain ⟨i, j, hij, hjn, rfl, rfl, hlo, hhi, hbel⟩ := hrel
    have HLO := hide hlo
    have HHI := hide hhi
    have HB := hide hbel
    clear hlo hhi hbel
    by_cases hlt : i < j
    · obtain ⟨h, hh⟩ : ∃ h, h = (i + j) / 2 := ⟨_, rfl⟩
      have hhn : h < n := by omega
      have HC := hide (unhide HF h hhn wr (unhide HB))
      have eh : ((i : Int) + (j : Int)) / 2 = (h : Int) := by omega
      have hi1 : i ≤ h := by omega
      have hj1 : h < j := by omega
      clear hh
      cases hFh : F h with
      | true =>
        rw [hFh] at HC
        have HFH := hide hFh
        clear hFh
        go_wp2_with fail
        refine (unhide HC).mono ?_
        rintro e w2 ⟨rfl, hb2⟩
        have HB2 := hide (bel_trans (unhide HB) hb2)
        clear hb2
        go_wp2
        go_roundw
        case rel =>
          refine ⟨i, h, by omega, by omega, rfl, rfl, unhide HLO, ?_, unhide HB2⟩
          intro y h1 h2
          exact unhide HM h y h1 h2 (unhide HFH)
        case measure => simp [intOf]; omega
      | false =>
        rw [hFh] at HC
        have HFH := hide hFh
        clear hFh
        go_wp2_with fail
        refine (unhide HC).mono ?_
        rintro e w2 ⟨rfl, hb2⟩
        have HB2 := hide (bel_trans (unhide HB) hb2)
        clear hb2
        go_wp2
        go_roundw
        case rel =>
          refine ⟨h + 1, j, by omega, by omega, by go_num, rfl, ?_, unhide HHI, unhide HB2⟩
          intro y h1
          cases hy : F y with
          | false => rfl
          | true =>
            have := unhide HM y h (by omega) hhn hy
            rw [unhide HFH] at this
            cases this
        case measure => simp [intOf]; omega
    · have he : i = j := by omega
      subst he
      go_wp2
      go_ret
      exact ⟨i, hjn, rfl, unhide HLO, unhide HHI, unhide HB⟩
set_option maxHeartbeats 1000000 in
theorem search_rowZero1 (a b : Value) (n : Nat) (F : Nat → Bool) (w : World) (hn : n ≤ 1000000) (hmono : ∀ i j, i ≤ j → j < n → F i = true → F j = true)
    (hf : ∀ h, h < n → ∀ w', Below w.heap.size w w' → Calls Tryd.prog 106 #[.int .i64 (h : Nat), a, b] w' fun e w2 => e = .returned (.bool (F h)) ∧ Below w'.heap.size w' w2) :
    Calls Tryd.prog 69 #[.int .i64 (n : Nat), .func (Fn.func 106) #[] #[a, b]] w fun e w' => ∃ r : Nat, r ≤ n ∧ e = .returned (.int .i64 (r : Nat)) ∧ (∀ h, h < r → F h = false) ∧ (∀ h, r ≤ h → h < n → F h = true) ∧ Below w.heap.size w w' := by
  have HF := hide hf
  have HM := hide hmono
  clear hf hmono
  go_enter Tryd.func69, Tryd.ntmps69
  go_wp2
  go_loopw [5, 6] (fun ii jj wr => ∃ i j : Nat, i ≤ j ∧ j ≤ n ∧ ii = .int .i64 (i : Nat) ∧ jj = .int .i64 (j : Nat) ∧ (∀ h, h < i → F h = false) ∧ (∀ h, j ≤ h → h < n → F h = true) ∧ Below w.heap.size w wr) (fun ii jj _ => (intOf jj).toNat - (intOf ii).toNat)
  case atStart => exact ⟨0, n, Nat.zero_le _, Nat.le_refl _, rfl, rfl, fun h hh => by omega, fun h h1 h2 => by omega, Below.refl _ _⟩
  case round =>
    obtain ⟨i, j, hij, hjn, rfl, rfl, hlo, hhi, hbel⟩ := hrel
    have HLO := hide hlo
    have HHI := hide hhi
    have HB := hide hbel
    clear hlo hhi hbel
    by_cases hlt : i < j
    · obtain ⟨h, hh⟩ : ∃ h, h = (i + j) / 2 := ⟨_, rfl⟩
      have hhn : h < n := by omega
      have HC := hide (unhide HF h hhn wr (unhide HB))
      have eh : ((i : Int) + (j : Int)) / 2 = (h : Int) := by omega
      have hi1 : i ≤ h := by omega
      have hj1 : h < j := by omega
      clear hh
      cases hFh : F h with
      | true =>
        rw [hFh] at HC
        have HFH := hide hFh
        clear hFh
        go_wp2_with fail
        refine (unhide HC).mono ?_
        rintro e w2 ⟨rfl, hb2⟩
        have HB2 := hide (bel_trans (unhide HB) hb2)
        clear hb2
        go_wp2
        go_roundw
        case rel =>
          refine ⟨i, h, by omega, by omega, rfl, rfl, unhide HLO, ?_, unhide HB2⟩
          intro y h1 h2
          exact unhide HM h y h1 h2 (unhide HFH)
        case measure => simp [intOf]; omega
      | false =>
        rw [hFh] at HC
        have HFH := hide hFh
        clear hFh
        go_wp2_with fail
        refine (unhide HC).mono ?_
        rintro e w2 ⟨rfl, hb2⟩
        have HB2 := hide (bel_trans (unhide HB) hb2)
        clear hb2
        go_wp2
        go_roundw
        case rel =>
          refine ⟨h + 1, j, by omega, by omega, by go_num, rfl, ?_, unhide HHI, unhide HB2⟩
          intro y h1
          cases hy : F y with
          | false => rfl
          | true =>
            have := unhide HM y h (by omega) hhn hy
            rw [unhide HFH] at this
            cases this
        case measure => simp [intOf]; omega
    · have he : i = j := by omega
      subst he
      go_wp2
      go_ret
      exact ⟨i, hjn, rfl, unhide HLO, unhide HHI, unhide HB⟩
set_option maxHeartbeats 1000000 in
theorem search_mBefore1 (a b : Value) (n : Nat) (F : Nat → Bool) (w : World) (hn : n ≤ 1000000) (hmono : ∀ i j, i ≤ j → j < n → F i = true → F j = true)
    (hf : ∀ h, h < n → ∀ w', Below w.heap.size w w' → Calls Tryd.prog 70 #[.int .i64 (h : Nat), a, b] w' fun e w2 => e = .returned (.bool (F h)) ∧ Below w'.heap.size w' w2) :
    Calls Tryd.prog 69 #[.int .i64 (n : Nat), .func (Fn.func 70) #[] #[a, b]] w fun e w' => ∃ r : Nat, r ≤ n ∧ e = .returned (.int .i64 (r : Nat)) ∧ (∀ h, h < r → F h = false) ∧ (∀ h, r ≤ h → h < n → F h = true) ∧ Below w.heap.size w w' := by
  have HF := hide hf
  have HM := hide hmono
  clear hf hmono
  go_enter Tryd.func69, Tryd.ntmps69
  go_wp2
  go_loopw [5, 6] (fun ii jj wr => ∃ i j : Nat, i ≤ j ∧ j ≤ n ∧ ii = .int .i64 (i : Nat) ∧ jj = .int .i64 (j : Nat) ∧ (∀ h, h < i → F h = false) ∧ (∀ h, j ≤ h → h < n → F h = true) ∧ Below w.heap.size w wr) (fun ii jj _ => (intOf jj).toNat - (intOf ii).toNat)
  case atStart => exact ⟨0, n, Nat.zero_le _, Nat.le_refl _, rfl, rfl, fun h hh => by omega, fun h h1 h2 => by omega, Below.refl _ _⟩
  case round =>
    obtain ⟨i, j, hij, hjn, rfl, rfl, hlo, hhi, hbel⟩ := hrel
    have HLO := hide hlo
    have HHI := hide hhi
    have HB := hide hbel
    clear hlo hhi hbel
    by_cases hlt : i < j
    · obtain ⟨h, hh⟩ : ∃ h, h = (i + j) / 2 := ⟨_, rfl⟩
      have hhn : h < n := by omega
      have HC := hide (unhide HF h hhn wr (unhide HB))
      have eh : ((i : Int) + (j : Int)) / 2 = (h : Int) := by omega
      have hi1 : i ≤ h := by omega
      have hj1 : h < j := by omega
      clear hh
      cases hFh : F h with
      | true =>
        rw [hFh] at HC
        have HFH := hide hFh
        clear hFh
        go_wp2_with fail
        refine (unhide HC).mono ?_
        rintro e w2 ⟨rfl, hb2⟩
        have HB2 := hide (bel_trans (unhide HB) hb2)
        clear hb2
        go_wp2
        go_roundw
        case rel =>
          refine ⟨i, h, by omega, by omega, rfl, rfl, unhide HLO, ?_, unhide HB2⟩
          intro y h1 h2
          exact unhide HM h y h1 h2 (unhide HFH)
        case measure => simp [intOf]; omega
      | false =>
        rw [hFh] at HC
        have HFH := hide hFh
        clear hFh
        go_wp2_with fail
        refine (unhide HC).mono ?_
        rintro e w2 ⟨rfl, hb2⟩
        have HB2 := hide (bel_trans (unhide HB) hb2)
        clear hb2
        go_wp2
        go_roundw
        case rel =>
          refine ⟨h + 1, j, by omega, by omega, by go_num, rfl, ?_, unhide HHI, unhide HB2⟩
          intro y h1
          cases hy : F y with
          | false => rfl
          | true =>
            have := unhide HM y h (by omega) hhn hy
            rw [unhide HFH] at this
            cases this
        case measure => simp [intOf]; omega
    · have he : i = j := by omega
      subst he
      go_wp2
      go_ret
      exact ⟨i, hjn, rfl, unhide HLO, unhide HHI, unhide HB⟩
set_option maxHeartbeats 1000000 in
theorem search_mAfter1 (a b : Value) (n : Nat) (F : Nat → Bool) (w : World) (hn : n ≤ 1000000) (hmono : ∀ i j, i ≤ j → j < n → F i = true → F j = true)
    (hf : ∀ h, h < n → ∀ w', Below w.heap.size w w' → Calls Tryd.prog 72 #[.int .i64 (h : Nat), a, b] w' fun e w2 => e = .returned (.bool (F h)) ∧ Below w'.heap.size w' w2) :
    Calls Tryd.prog 69 #[.int .i64 (n : Nat), .func (Fn.func 72) #[] #[a, b]] w fun e w' => ∃ r : Nat, r ≤ n ∧ e = .returned (.int .i64 (r : Nat)) ∧ (∀ h, h < r → F h = false) ∧ (∀ h, r ≤ h → h < n → F h = true) ∧ Below w.heap.size w w' := by
  have HF := hide hf
  have HM := hide hmono
  clear hf hmono
  go_enter Tryd.func69, Tryd.ntmps69
  go_wp2
  go_loopw [5, 6] (fun ii jj wr => ∃ i j : Nat, i ≤ j ∧ j ≤ n ∧ ii = .int .i64 (i : Nat) ∧ jj = .int .i64 (j : Nat) ∧ (∀ h, h < i → F h = false) ∧ (∀ h, j ≤ h → h < n → F h = true) ∧ Below w.heap.size w wr) (fun ii jj _ => (intOf jj).toNat - (intOf ii).toNat)
  case atStart => exact ⟨0, n, Nat.zero_le _, Nat.le_refl _, rfl, rfl, fun h hh => by omega, fun h h1 h2 => by omega, Below.refl _ _⟩
  case round =>
    obtain ⟨i, j, hij, hjn, rfl, rfl, hlo, hhi, hbel⟩ := hrel
    have HLO := hide hlo
    have HHI := hide hhi
    have HB := hide hbel
    clear hlo hhi hbel
    by_cases hlt : i < j
    · obtain ⟨h, hh⟩ : ∃ h, h = (i + j) / 2 := ⟨_, rfl⟩
      have hhn : h < n := by omega
      have HC := hide (unhide HF h hhn wr (unhide HB))
      have eh : ((i : Int) + (j : Int)) / 2 = (h : Int) := by omega
      have hi1 : i ≤ h := by omega
      have hj1 : h < j := by omega
      clear hh
      cases hFh : F h with
      | true =>
        rw [hFh] at HC
        have HFH := hide hFh
        clear hFh
        go_wp2_with fail
        refine (unhide HC).mono ?_
        rintro e w2 ⟨rfl, hb2⟩
        have HB2 := hide (bel_trans (unhide HB) hb2)
        clear hb2
        go_wp2
        go_roundw
        case rel =>
          refine ⟨i, h, by omega, by omega, rfl, rfl, unhide HLO, ?_, unhide HB2⟩
          intro y h1 h2
          exact unhide HM h y h1 h2 (unhide HFH)
        case measure => simp [intOf]; omega
      | false =>
        rw [hFh] at HC
        have HFH := hide hFh
        clear hFh
        go_wp2_with fail
        refine (unhide HC).mono ?_
        rintro e w2 ⟨rfl, hb2⟩
        have HB2 := hide (bel_trans (unhide HB) hb2)
        clear hb2
        go_wp2
        go_roundw
        case rel =>
          refine ⟨h + 1, j, by omega, by omega, by go_num, rfl, ?_, unhide HHI, unhide HB2⟩
          intro y h1
          cases hy : F y with
          | false => rfl
          | true =>
            have := unhide HM y h (by omega) hhn hy
            rw [unhide HFH] at this
            cases this
        case measure => simp [intOf]; omega
    · have he : i = j := by omega
      subst he
      go_wp2
      go_ret
      exact ⟨i, hjn, rfl, unhide HLO, unhide HHI, unhide HB⟩
end Pr
end Go.Proofs.YtolkjadklbchfaaDoor
/- Walks of the program: bitrow.oneOf, One, Zero with their closures. -/
open Go Go.RowKit
namespace Go.Proofs.YtolkjadklbchfaaDoor
namespace Pr
open Mem Rf

theorem and_pred_u64 (y z : Nat) (hy : y < 18446744073709551616) (h0 : 0 < y) (h : y &&& (y - 1) = z) : bits BinOp.and IntKind.u64 (y : Int) ((y : Int) - 1) = (z : Int) := by
  rw [show ((y : Int) - 1) = ((y - 1 : Nat) : Int) from by omega, u64_and_nat y (y - 1) hy (by omega), h]
theorem off_lt {x k y p : Nat} (h : Sp.Off x k y p) (hx : x < 18446744073709551616) : y < 18446744073709551616 := by
  have := h.eq
  have h2 := Nat.div_mul_le_self x (2 ^ p)
  omega

set_option maxHeartbeats 1000000 in
theorem oneOf_any (x k c : Nat) (hx : x < 18446744073709551616) (hp : Sp.IsPos (Sp.bits64 x) true k c) (w : World) (hT : Bru w) :
    Calls Tryd.prog 108 #[.int .u64 (x : Int), .int .i64 (k : Nat)] w fun e w' => e = .returned (.int .i64 (c : Nat)) ∧ w' = w := by
  have hk : k < (Sp.bits64 x).count true := by
    have h1 := hp.next
    have h2 := Sp.count_take_mono (Sp.bits64 x) true (show c + 1 ≤ (Sp.bits64 x).length from hp.lt)
    rw [List.take_length] at h2
    omega
  have hk64 : k < 64 := by
    have := List.count_le_length (a := true) (l := Sp.bits64 x)
    rw [Sp.bits64_len] at this
    omega
  have HP := hide hp
  have HK := hide hk
  have HT := hide hT
  clear hp hk hT
  go_enter Tryd.func108, Tryd.ntmps108
  go_wp2
  go_loop [0, 6] (fun yy ii => ∃ i y p : Nat, i ≤ k ∧ ii = .int .i64 (i : Nat) ∧ yy = .int .u64 (y : Int) ∧ Sp.Off x i y p) (fun _ ii => k - (intOf ii).toNat)
  case atStart => exact ⟨0, x, 0, Nat.zero_le _, rfl, rfl, Sp.Off.start x⟩
  case round =>
    obtain ⟨i, y, p, hi, rfl, rfl, hoff⟩ := hrel
    have hy := off_lt hoff hx
    have hne := hoff.nonzero (Nat.lt_of_le_of_lt hi (unhide HK))
    obtain ⟨c1, m, hc1, hm, hcall⟩ := trail_any y hy hne
    have hlow := hoff.low hx hm
    by_cases hlt : i < k
    · have e1 := and_pred_u64 y (2 ^ c1 * (2 * m)) hy (by omega) (by rw [hm]; exact Sp.and_pred c1 m)
      have HL := hide hlow.2.2
      have hy0 : 0 < y := by omega
      clear hlow hoff hcall hm hne
      generalize 2 ^ c1 * (2 * m) = z at *
      go_wp2
      go_round
      case rel => exact ⟨i + 1, z, c1 + 1, by omega, by go_num, rfl, unhide HL⟩
      case measure => simp [intOf]; omega
    · have he : i = k := by omega
      subst he
      have hcc : c1 = c := hlow.2.1.uniq (unhide HP)
      subst hcc
      have HC := hide (hcall w (unhide HT))
      clear hlow hoff hcall hm hne
      go_wp2_with (go_at_call 110; refine at_same (unhide HC) ?_)
      go_ret
      exact ⟨rfl, rfl⟩

/-- The ahead cell of a word. -/
theorem ahead_cell {lo : Nat} {w : World} {yw ya : Value} {l : List Bool} (h : RowIs lo w yw ya l) (i : Nat) (hi : i < l.length / 64 + 1) : ∃ b o c, ya = .slice (some ⟨b, o, none⟩) (l.length / 64 + 1) c ∧ w.cell? ⟨b, o + i, none⟩ = some (.int .i64 (Sp.aheadN (Sp.words l) i : Nat)) := by
  have hk8 : i < (Sp.words l).length := by rw [Sp.words_len]; exact hi
  obtain ⟨pa, ca, rfl, _⟩ := own_slice h.oa
  obtain ⟨b2, o2, rfl, hb2, hc2⟩ := (Rd.owned h.oa).at i _ (NI_at (Sp.aheads (Sp.words l)) i (by rw [Sp.aheads_len]; exact hk8))
  have hat := Sp.aheads_at (Sp.words l) i hk8
  rw [List.getElem?_eq_getElem (by rw [Sp.aheads_len]; exact hk8)] at hat
  rw [Option.some.inj hat] at hc2
  exact ⟨b2, o2, ca, rfl, hc2⟩
theorem word_cell {lo : Nat} {w : World} {yw ya : Value} {l : List Bool} (h : RowIs lo w yw ya l) (i : Nat) (hi : i < l.length / 64 + 1) : ∃ b o c x, yw = .slice (some ⟨b, o, none⟩) (l.length / 64 + 1) c ∧ w.cell? ⟨b, o + i, none⟩ = some (.int .u64 (x : Nat)) ∧ (Sp.words l)[i]? = some x ∧ x < 18446744073709551616 := by
  have hk8 : i < (Sp.words l).length := by rw [Sp.words_len]; exact hi
  obtain ⟨pa, ca, rfl, _⟩ := own_slice h.ow
  obtain ⟨b2, o2, rfl, hb2, hc2⟩ := (Rd.owned h.ow).at i _ (U64_at (Sp.words l) i hk8)
  exact ⟨b2, o2, ca, _, rfl, hc2, List.getElem?_eq_getElem hk8, Sp.words_lt l _ (List.getElem_mem _)⟩

set_option maxHeartbeats 1000000 in
theorem one1_any (lo : Nat) (yw ya : Value) (l : List Bool) (k i H K : Nat) (w : World) (h : RowIs lo w yw ya l) (hn : l.length ≤ 1000000) (hi : i < l.length / 64 + 1)
    (hc : w.cell? ⟨H, 1, none⟩ = some ya) (hck : w.cell? ⟨K, 0, none⟩ = some (.int .i64 (k : Nat))) :
    Calls Tryd.prog 109 #[.int .i64 (i : Nat), .pointer (some ⟨H, 0, none⟩), .pointer (some ⟨K, 0, none⟩)] w fun e w' => e = .returned (.bool (decide (k < Sp.aheadN (Sp.words l) i))) ∧ Below w.heap.size w w' := by
  obtain ⟨b, o, c, rfl, hca⟩ := ahead_cell h i hi
  have hsm := aheadN_small (Sp.words l) i (by rw [Sp.words_len]; omega) (by rw [Sp.words_len]; omega)
  clear h
  generalize Sp.aheadN (Sp.words l) i = ak at *
  by_cases hlt : k < ak
  all_goals
    have hd : decide ((k : Int) < (ak : Int)) = decide (k < ak) := by rw [decide_eq_decide]; omega
    go_enter Tryd.func109, Tryd.ntmps109
    go_wp2_with fail
    go_quiet (fail)
    go_wp2
    go_ret
    exact ⟨ret_bool (by simp [hlt]), drewN_bel _ _⟩

set_option maxHeartbeats 1000000 in
theorem zerosAhead_any (lo : Nat) (yw ya : Value) (l : List Bool) (i : Nat) (w : World) (h : RowIs lo w yw ya l) (hn : l.length ≤ 1000000) (hi : i < l.length / 64 + 1) :
    Calls Tryd.prog 107 #[.agg #[yw, ya, .int .i64 (l.length : Nat)], .int .i64 (i : Nat)] w fun e w' => e = .returned (.int .i64 (64 * i - Sp.aheadN (Sp.words l) i : Nat)) ∧ Below w.heap.size w w' := by
  obtain ⟨pw, cw, hpw, _⟩ := own_slice h.ow
  obtain ⟨b, o, c, rfl, hca⟩ := ahead_cell h i hi
  subst hpw
  have hle := Sp.aheadN_le (Sp.words l) i (by rw [Sp.words_len]; omega)
  have hb := alloc_cell hca
  clear h
  generalize Sp.aheadN (Sp.words l) i = ak at *
  go_enter Tryd.func107, Tryd.ntmps107
  go_wp2
  go_ret
  exact ⟨ret_int (by go_num), alloc_bel _ _⟩

theorem drew_bel (w : World) : Below w.heap.size w w.drew := (Below.refl _ _).drew
set_option maxHeartbeats 1000000 in
theorem zero1_any (lo : Nat) (yw ya : Value) (l : List Bool) (k i H K : Nat) (w : World) (h : RowIs lo w yw ya l) (hn : l.length ≤ 1000000) (hi : i < l.length / 64 + 1)
    (hc0 : w.cell? ⟨H, 0, none⟩ = some yw) (hc1 : w.cell? ⟨H, 1, none⟩ = some ya) (hc2 : w.cell? ⟨H, 2, none⟩ = some (.int .i64 (l.length : Nat))) (hck : w.cell? ⟨K, 0, none⟩ = some (.int .i64 (k : Nat))) :
    Calls Tryd.prog 106 #[.int .i64 (i : Nat), .pointer (some ⟨H, 0, none⟩), .pointer (some ⟨K, 0, none⟩)] w fun e w' => e = .returned (.bool (decide (k < 64 * i - Sp.aheadN (Sp.words l) i))) ∧ Below w.heap.size w w' := by
  have HC := hide (zerosAhead_any lo yw ya l i w.drew ⟨h.ow.drew, h.oa.drew⟩ hn hi)
  have HK := hide (fun (w' : World) (hb : Below w.heap.size w w') => later_cell hck hb)
  obtain ⟨pw, cw, pa, ca, rfl, rfl⟩ := h.form
  clear h
  generalize 64 * i - Sp.aheadN (Sp.words l) i = ak at *
  go_enter Tryd.func106, Tryd.ntmps106
  go_wp2_with fail
  go_region_with (go_at_call 107; refine (unhide HC).mono ?_; rintro e w1 ⟨rfl, hb1⟩; have hb2 := bel_trans (drew_bel w) hb1; have hk1 := unhide HK _ hb2; have HB2 := hide hb2; clear hb1 hb2)
  all_goals
    go_wp2
    go_ret
    exact ⟨ret_bool (by simp), unhide HB2⟩
end Pr
end Go.Proofs.YtolkjadklbchfaaDoor
/- Walks of the program: bitrow.One, Zero. -/
open Go Go.RowKit
namespace Go.Proofs.YtolkjadklbchfaaDoor
namespace Sp
theorem aheadN_zero (ws : List Nat) : aheadN ws 0 = 0 := by simp [aheadN, bitsOf]
theorem find_one {l : List Bool} {k p r : Nat} (hp : IsPos l true k p) (hr : r ≤ l.length / 64 + 1) (h1 : ∀ h, h < r → decide (k < aheadN (words l) h) = false) (h2 : ∀ h, r ≤ h → h < l.length / 64 + 1 → decide (k < aheadN (words l) h) = true) :
    ∃ q x c, r = q + 1 ∧ q < l.length / 64 + 1 ∧ (words l)[q]? = some x ∧ aheadN (words l) q ≤ k ∧ IsPos (bits64 x) true (k - aheadN (words l) q) c ∧ p = 64 * q + c ∧ c < 64 := by
  have hlen := words_len l
  have hk : k < l.count true := by
    have a1 := hp.next
    have a2 := count_take_mono l true (show p + 1 ≤ l.length from hp.lt)
    rw [List.take_length] at a2
    omega
  have hr0 : 0 < r := by
    apply Nat.pos_of_ne_zero
    intro h0
    have := h2 0 (by omega) (by omega)
    rw [aheadN_zero] at this
    simp at this
  have hq : r - 1 < (words l).length := by omega
  have hle : aheadN (words l) (r - 1) ≤ k := by
    have := h1 (r - 1) (by omega)
    simpa using this
  have hgt : k < aheadN (words l) (r - 1 + 1) := by
    rw [show r - 1 + 1 = r from by omega]
    by_cases hrn : r < l.length / 64 + 1
    · have := h2 r (Nat.le_refl _) hrn
      simpa using this
    · have he : r = (words l).length := by omega
      rw [he]
      unfold aheadN
      rw [List.take_length, words_count]
      exact hk
  have hs := aheadN_succ (words l) (r - 1) hq
  obtain ⟨c, hc⟩ := isPos_exists (l := bits64 (words l)[r - 1]) (b := true) (k := k - aheadN (words l) (r - 1)) (by omega)
  refine ⟨r - 1, (words l)[r - 1], c, by omega, by omega, List.getElem?_eq_getElem hq, hle, hc, ?_, ?_⟩
  · exact hp.uniq (words_pos hk (one_in (words l) k (r - 1) hq hle hc))
  · have := hc.lt
    rwa [bits64_len] at this
theorem find_zero {l : List Bool} {k p r : Nat} (hp : IsPos l false k p) (hr : r ≤ l.length / 64 + 1) (h1 : ∀ h, h < r → decide (k < 64 * h - aheadN (words l) h) = false) (h2 : ∀ h, r ≤ h → h < l.length / 64 + 1 → decide (k < 64 * h - aheadN (words l) h) = true) :
    ∃ q x c, r = q + 1 ∧ q < l.length / 64 + 1 ∧ (words l)[q]? = some x ∧ 64 * q - aheadN (words l) q ≤ k ∧ IsPos (bits64 (18446744073709551615 - x)) true (k - (64 * q - aheadN (words l) q)) c ∧ p = 64 * q + c ∧ c < 64 ∧ x < 18446744073709551616 := by
  have hlen := words_len l
  have hk : k < l.count false := by
    have a1 := hp.next
    have a2 := count_take_mono l false (show p + 1 ≤ l.length from hp.lt)
    rw [List.take_length] at a2
    omega
  have hr0 : 0 < r := by
    apply Nat.pos_of_ne_zero
    intro h0
    have := h2 0 (by omega) (by omega)
    simp at this
  have hq : r - 1 < (words l).length := by omega
  have hle : 64 * (r - 1) - aheadN (words l) (r - 1) ≤ k := by
    have := h1 (r - 1) (by omega)
    simpa using this
  have hgt : k < 64 * (r - 1 + 1) - aheadN (words l) (r - 1 + 1) := by
    rw [show r - 1 + 1 = r from by omega]
    by_cases hrn : r < l.length / 64 + 1
    · have := h2 r (Nat.le_refl _) hrn
      simpa using this
    · have he : r = (words l).length := by omega
      rw [he, ← zeroN (words l) _ (Nat.le_refl _), ← bitsOf_len, List.take_length]
      exact Nat.lt_of_lt_of_le hk (words_count0 l)
  have hs := bits64_zero (words l) (r - 1) hq
  obtain ⟨c, hc⟩ := isPos_exists (l := bits64 (words l)[r - 1]) (b := false) (k := k - (64 * (r - 1) - aheadN (words l) (r - 1))) (by omega)
  have hx : (words l)[r - 1] < 18446744073709551616 := words_lt l _ (List.getElem_mem hq)
  have hc' : IsPos (bits64 (18446744073709551615 - (words l)[r - 1])) true (k - (64 * (r - 1) - aheadN (words l) (r - 1))) c := by
    rw [bits64_not hx]
    refine ⟨?_, ?_⟩
    · rw [List.getElem?_map, hc.1]
      rfl
    · rw [← List.map_take, ← hc.2]
      generalize (bits64 (words l)[r - 1]).take c = m
      induction m with
      | nil => rfl
      | cons b m ih => cases b <;> simp [ih]
  refine ⟨r - 1, (words l)[r - 1], c, by omega, by omega, List.getElem?_eq_getElem hq, hle, hc', ?_, ?_, hx⟩
  · exact hp.uniq (words_pos hk (zero_in (words l) k (r - 1) hq hle hc))
  · have := hc.lt
    rwa [bits64_len] at this
theorem xor_all (x : Nat) (hx : x < 18446744073709551616) : 18446744073709551615 ^^^ x = 18446744073709551615 - x := by
  apply Nat.eq_of_testBit_eq
  intro i
  have h1 := Nat.testBit_two_pow_sub_succ (x := x) (n := 64) hx i
  rw [show (2 : Nat) ^ 64 - (x + 1) = 18446744073709551615 - x from by omega] at h1
  have h2 := Nat.testBit_two_pow_sub_one 64 i
  rw [show (2 : Nat) ^ 64 - 1 = 18446744073709551615 from rfl] at h2
  rw [Nat.testBit_xor, h1, h2]
  by_cases hi : i < 64
  · simp [hi]
  · have : x.testBit i = false := Nat.testBit_lt_two_pow (Nat.lt_of_lt_of_le hx (Nat.pow_le_pow_right (n := 2) (by omega) (show 64 ≤ i by omega)))
    simp [hi, this]
end Sp
namespace Pr
open Mem Rf

theorem not_u64 (x : Nat) (hx : x < 18446744073709551616) : bits BinOp.xor IntKind.u64 IntKind.u64.max (x : Int) = ((18446744073709551615 - x : Nat) : Int) := by
  rw [show IntKind.u64.max = ((18446744073709551615 : Nat) : Int) from rfl, u64_xor_nat _ _ (by decide) hx, Sp.xor_all x hx]

/-- A row's box and a number's box. -/
theorem box_row (w : World) (v0 v1 v2 : Value) (t : TypeId) (o : Obj) (j : Nat) (u : Value) (h : #[v0, v1, v2][j]? = some u) : ((w.alloc (.cells #[v0, v1, v2] t)).alloc o).cell? ⟨w.heap.size, j, none⟩ = some u := by
  rw [cell_of_row _ _ _ _ _ (0, 0) (show ((w.alloc (.cells #[v0, v1, v2] t)).alloc o).heap[w.heap.size]? = some (.cells #[v0, v1, v2] t (0, 0)) from by rw [Below.heap_alloc _ _ _ (by simp)]; exact heap_alloc_new _ _)]
  exact h
theorem box_num (w : World) (o : Obj) (v : Value) (t : TypeId) : ((w.alloc o).alloc (.cells #[v] t)).cell? ⟨w.heap.size + 1, 0, none⟩ = some v := by
  have : ((w.alloc o).alloc (.cells #[v] t)).heap[w.heap.size + 1]? = some (.cells #[v] t (0, 0)) := by
    have := heap_alloc_new (w.alloc o) (.cells #[v] t)
    simpa using this
  rw [cell_of_row _ _ _ _ _ (0, 0) this]
  rfl

set_option maxHeartbeats 1000000 in
theorem one_any (lo : Nat) (yw ya : Value) (l : List Bool) (k p : Nat) (w : World) (h : RowIs lo w yw ya l) (hn : l.length ≤ 1000000) (hp : Sp.IsPos l true k p) (hT : Bru w) :
    Calls Tryd.prog 101 #[.agg #[yw, ya, .int .i64 (l.length : Nat)], .int .i64 (k : Nat)] w fun e w' => e = .returned (.int .i64 (p : Nat)) ∧ Below w.heap.size w w' := by
  have hpl := hp.lt
  have hkl : k < l.length := by
    have := hp.2
    have h2 := List.count_le_length (a := true) (l := l.take p)
    rw [List.length_take] at h2
    omega
  have HSE := hide (fun (o2 o1 : Obj) (ho1 : o1 = .cells #[yw, ya, .int .i64 (l.length : Nat)] 68) (ho2 : o2 = .cells #[.int .i64 (k : Nat)] 3) =>
    search_rowOne1 (.pointer (some ⟨w.heap.size, 0, none⟩)) (.pointer (some ⟨w.heap.size + 1, 0, none⟩)) (l.length / 64 + 1) (fun i => decide (k < Sp.aheadN (Sp.words l) i)) ((w.alloc o1).alloc o2) (by omega)
      (fun i j hij hj hi => by
        have := Sp.aheadN_mono (Sp.words l) hij (by rw [Sp.words_len]; omega)
        simp at hi ⊢
        omega)
      (fun i hi w' hb => one1_any lo yw ya l k i w.heap.size (w.heap.size + 1) w' (((h.alloc o1).alloc o2).later hb) hn hi (later_cell (by rw [ho1]; exact box_row w _ _ _ _ _ 1 _ rfl) hb) (later_cell (by rw [ho2]; exact box_num w _ _ _) hb)))
  have HFI := hide (fun r => Sp.find_one (r := r) hp)
  have HH := hide h
  have HT := hide hT
  obtain ⟨pw, cw, pa, ca, rfl, rfl⟩ := h.form
  clear h hp hT
  go_enter Tryd.func101, Tryd.ntmps101
  go_wp2_with fail
  refine (unhide HSE _ _ rfl rfl).mono ?_
  rintro e w1 ⟨r, hr, rfl, h1, h2, hb1⟩
  obtain ⟨q, x, c, rfl, hq, hxq, hle, hpos, rfl, hc64⟩ := unhide HFI r hr h1 h2
  have hb2 : Below w.heap.size w w1 := bel_trans (bel_trans (alloc_bel _ _) (alloc_bel _ _)) hb1
  have hrow := (unhide HH).later hb2
  obtain ⟨b1, o1, c1, x', hs1, hcx, hxx, hx64⟩ := word_cell hrow q hq
  rw [hxq] at hxx
  obtain rfl := Option.some.inj hxx
  obtain ⟨b2, o2, c2, hs2, hca⟩ := ahead_cell hrow q hq
  simp only [Value.slice.injEq] at hs1 hs2
  obtain ⟨rfl, _, rfl⟩ := hs1
  obtain ⟨rfl, _, rfl⟩ := hs2
  have hd0 := later_cell (box_row w (.slice (some ⟨b1, o1, none⟩) (l.length / 64 + 1) cw) (.slice (some ⟨b2, o2, none⟩) (l.length / 64 + 1) ca) (.int .i64 (l.length : Nat)) 68 (.cells #[.int .i64 (k : Nat)] 3) 0 _ rfl) hb1
  have hd1 := later_cell (box_row w (.slice (some ⟨b1, o1, none⟩) (l.length / 64 + 1) cw) (.slice (some ⟨b2, o2, none⟩) (l.length / 64 + 1) ca) (.int .i64 (l.length : Nat)) 68 (.cells #[.int .i64 (k : Nat)] 3) 1 _ rfl) hb1
  have hdk := later_cell (box_num w (.cells #[.slice (some ⟨b1, o1, none⟩) (l.length / 64 + 1) cw, .slice (some ⟨b2, o2, none⟩) (l.length / 64 + 1) ca, .int .i64 (l.length : Nat)] 68) (.int .i64 (k : Nat)) 3) hb1
  have hsm := aheadN_small (Sp.words l) q (by rw [Sp.words_len]; omega) (by rw [Sp.words_len]; omega)
  have HC := hide (fun n => oneOf_any x (k - Sp.aheadN (Sp.words l) q) c hx64 hpos (w1.drewN n) ((unhide HT).below (hb2.trans (drewN_bel w1 n |>.mono hb2.size)) (unhide HT).1))
  have HB := hide hb2
  generalize hak : Sp.aheadN (Sp.words l) q = ak at *
  have ek : ((k : Int) - (ak : Int)) = ((k - ak : Nat) : Int) := by omega
  clear HSE HFI HH hb1 hb2 hrow h1 h2 hxq hpos hak
  go_wp2_with fail
  go_quiet ((go_at_call 108; first | exact Calls.quiet_of_same (unhide HC _) | (rw [ek]; exact Calls.quiet_of_same (unhide HC _))))
  go_wp2
  go_ret
  exact ⟨ret_int (by go_num), bel_trans (unhide HB) (drewN_bel _ _)⟩

theorem fin_zero (q c : Nat) (hq : q ≤ 100000) (hc : c < 64) : IntKind.i64.wrap (IntKind.i64.wrap ((q : Int) * 64) + (c : Int)) = ((64 * q + c : Nat) : Int) := by
  rw [IntKind.wrap_i64, IntKind.wrap_i64]
  omega
set_option maxHeartbeats 1000000 in
theorem zero_any (lo : Nat) (yw ya : Value) (l : List Bool) (k p : Nat) (w : World) (h : RowIs lo w yw ya l) (hn : l.length ≤ 1000000) (hp : Sp.IsPos l false k p) (hT : Bru w) :
    Calls Tryd.prog 100 #[.agg #[yw, ya, .int .i64 (l.length : Nat)], .int .i64 (k : Nat)] w fun e w' => e = .returned (.int .i64 (p : Nat)) ∧ Below w.heap.size w w' := by
  have hpl := hp.lt
  have hkl : k < l.length := by
    have := hp.2
    have h2 := List.count_le_length (a := false) (l := l.take p)
    rw [List.length_take] at h2
    omega
  have HSE := hide (fun (o2 o1 : Obj) (ho1 : o1 = .cells #[yw, ya, .int .i64 (l.length : Nat)] 68) (ho2 : o2 = .cells #[.int .i64 (k : Nat)] 3) =>
    search_rowZero1 (.pointer (some ⟨w.heap.size, 0, none⟩)) (.pointer (some ⟨w.heap.size + 1, 0, none⟩)) (l.length / 64 + 1) (fun i => decide (k < 64 * i - Sp.aheadN (Sp.words l) i)) ((w.alloc o1).alloc o2) (by omega)
      (fun i j hij hj hi => by
        have := Sp.zeroN_mono (Sp.words l) hij (by rw [Sp.words_len]; omega)
        simp at hi ⊢
        omega)
      (fun i hi w' hb => zero1_any lo yw ya l k i w.heap.size (w.heap.size + 1) w' (((h.alloc o1).alloc o2).later hb) hn hi (later_cell (by rw [ho1]; exact box_row w _ _ _ _ _ 0 _ rfl) hb) (later_cell (by rw [ho1]; exact box_row w _ _ _ _ _ 1 _ rfl) hb) (later_cell (by rw [ho1]; exact box_row w _ _ _ _ _ 2 _ rfl) hb) (later_cell (by rw [ho2]; exact box_num w _ _ _) hb)))
  have HFI := hide (fun r => Sp.find_zero (r := r) hp)
  have HH := hide h
  have HT := hide hT
  obtain ⟨pw, cw, pa, ca, rfl, rfl⟩ := h.form
  clear h hp hT
  go_enter Tryd.func100, Tryd.ntmps100
  go_wp2_with fail
  refine (unhide HSE _ _ rfl rfl).mono ?_
  rintro e w1 ⟨r, hr, rfl, h1, h2, hb1⟩
  obtain ⟨q, x, c, rfl, hq, hxq, hle, hpos, rfl, hc64, hx64⟩ := unhide HFI r hr h1 h2
  have hb2 : Below w.heap.size w w1 := bel_trans (bel_trans (alloc_bel _ _) (alloc_bel _ _)) hb1
  have hrow := (unhide HH).later hb2
  obtain ⟨b1, o1, c1, x', hs1, hcx, hxx, _⟩ := word_cell hrow q hq
  rw [hxq] at hxx
  obtain rfl := Option.some.inj hxx
  obtain ⟨b2, o2, c2, hs2, hca⟩ := ahead_cell hrow q hq
  simp only [Value.slice.injEq] at hs1 hs2
  obtain ⟨rfl, _, rfl⟩ := hs1
  obtain ⟨rfl, _, rfl⟩ := hs2
  have hd0 := later_cell (box_row w (.slice (some ⟨b1, o1, none⟩) (l.length / 64 + 1) cw) (.slice (some ⟨b2, o2, none⟩) (l.length / 64 + 1) ca) (.int .i64 (l.length : Nat)) 68 (.cells #[.int .i64 (k : Nat)] 3) 0 _ rfl) hb1
  have hd1 := later_cell (box_row w (.slice (some ⟨b1, o1, none⟩) (l.length / 64 + 1) cw) (.slice (some ⟨b2, o2, none⟩) (l.length / 64 + 1) ca) (.int .i64 (l.length : Nat)) 68 (.cells #[.int .i64 (k : Nat)] 3) 1 _ rfl) hb1
  have hdk := later_cell (box_num w (.cells #[.slice (some ⟨b1, o1, none⟩) (l.length / 64 + 1) cw, .slice (some ⟨b2, o2, none⟩) (l.length / 64 + 1) ca, .int .i64 (l.length : Nat)] 68) (.int .i64 (k : Nat)) 3) hb1
  have hd2 := later_cell (box_row w (.slice (some ⟨b1, o1, none⟩) (l.length / 64 + 1) cw) (.slice (some ⟨b2, o2, none⟩) (l.length / 64 + 1) ca) (.int .i64 (l.length : Nat)) 68 (.cells #[.int .i64 (k : Nat)] 3) 2 _ rfl) hb1
  have HK := hide (fun (w' : World) (hb : Below w1.heap.size w1 w') => And.intro (later_cell hcx hb) (And.intro (later_cell hd0 hb) (And.intro (later_cell hdk hb) (And.intro (later_cell hd1 hb) (later_cell hd2 hb)))))
  have en := not_u64 x hx64
  have EN : Hid (bits BinOp.xor IntKind.u64 (if IntKind.u64.signed = true then -1 else IntKind.u64.max) (x : Int) = ((18446744073709551615 - x : Nat) : Int)) := by unfold Hid; rw [if_neg (by decide)]; exact en
  have hy64 : 18446744073709551615 - x < 18446744073709551616 := by omega
  have HZ := hide (zerosAhead_any lo _ _ l q w1.drew ⟨hrow.ow.drew, hrow.oa.drew⟩ hn hq)
  have HC := hide (fun (W : World) (hb : Below w1.heap.size w1 W) => oneOf_any (18446744073709551615 - x) (k - (64 * q - Sp.aheadN (Sp.words l) q)) c hy64 hpos W ((unhide HT).below (bel_trans hb2 hb) (unhide HT).1))
  have hqi : (q : Int) < (l.length : Int) / 64 + 1 := by omega
  have hq5 : q ≤ 100000 := by omega
  have hz64 : 64 * q - Sp.aheadN (Sp.words l) q ≤ 64000000 := by omega
  have HB := hide hb2
  generalize hak : 64 * q - Sp.aheadN (Sp.words l) q = ak at *
  have EK : Hid (((k : Int) - (ak : Int)) = ((k - ak : Nat) : Int)) := by unfold Hid; omega
  have EW : Hid (IntKind.i64.wrap ((k - ak : Nat) : Int) = ((k - ak : Nat) : Int)) := by unfold Hid; rw [IntKind.wrap_i64]; omega
  clear HSE HFI HH hb1 hb2 hrow h1 h2 hxq hpos hak hca
  generalize 18446744073709551615 - x = y at *
  go_wp2_with fail
  go_region_held3 (fun w' => w'.cell? ⟨b1, o1 + q, none⟩ = some (.int .u64 (x : Nat)) ∧ w'.cell? ⟨w.heap.size, 0, none⟩ = some (.slice (some ⟨b1, o1, none⟩) (l.length / 64 + 1) cw) ∧ w'.cell? ⟨w.heap.size + 1, 0, none⟩ = some (.int .i64 (k : Nat)) ∧ w'.cell? ⟨w.heap.size, 1, none⟩ = some (.slice (some ⟨b2, o2, none⟩) (l.length / 64 + 1) ca) ∧ w'.cell? ⟨w.heap.size, 2, none⟩ = some (.int .i64 (l.length : Nat))) (go_keep)
    (first
    | (go_at_call 107; refine (unhide HZ).mono ?_; rintro e w2 ⟨rfl, hb2⟩; have hb3 := bel_trans (drew_bel w1) hb2; have hk0 := (unhide HK _ hb3).1; have hk1 := (unhide HK _ hb3).2.1; have hk2 := (unhide HK _ hb3).2.2.1; have hk3 := (unhide HK _ hb3).2.2.2.1; have hk4 := (unhide HK _ hb3).2.2.2.2; have HB2 := hide hb3; clear hb2 hb3)
    | (go_at_call 108; (try rw [unhide EK]); (try rw [unhide EW]); (try rw [unhide EN]); refine at_same (unhide HC _ (unhide HB2)) ?_))
  all_goals
    go_wp2
    go_ret
    exact ⟨ret_int (fin_zero q c hq5 hc64), bel_trans (unhide HB) (unhide HB2)⟩
end Pr
end Go.Proofs.YtolkjadklbchfaaDoor
