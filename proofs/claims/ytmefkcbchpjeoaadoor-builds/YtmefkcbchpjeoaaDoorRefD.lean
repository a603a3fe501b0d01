/- Walks: Fit. -/
import Derived.Test.YtmefkcbchpjeoaaDoorRefC
import Derived.Deep.QuietTactic
import Derived.BigQuiet
open Go Go.RowKit
namespace Go.Proofs.YtmefkcbchpjeoaaDoor
namespace Rf
open Mem

/-- The least that the mark at the place k may be. -/
def lo (ms : List Int) (k : Nat) : Int := if k = 0 then 0 else ms.getD (k - 1) 0 + 1

theorem upTo_ok {n : Nat} {ms : List Int} {k : Nat} (hk : k < ms.length) (h1 : lo ms k ≤ ms[k]) (h2 : ms[k] < n) : Sp.upTo n (lo ms k) (ms.drop k) = Sp.upTo n (lo ms (k + 1)) (ms.drop (k + 1)) := by
  rw [List.drop_eq_getElem_cons hk]
  have e : lo ms (k + 1) = ms[k] + 1 := by simp [lo, List.getD, hk]
  rw [e]
  simp [Sp.upTo, h1, h2]
theorem upTo_bad {n : Nat} {ms : List Int} {k : Nat} (hk : k < ms.length) (h : ms[k] < lo ms k ∨ n ≤ ms[k]) : Sp.upTo n (lo ms k) (ms.drop k) = false := by
  rw [List.drop_eq_getElem_cons hk]
  have : ¬ (lo ms k ≤ ms[k] ∧ ms[k] < n) := by omega
  simp [Sp.upTo]
  intro h1 h2
  omega

set_option maxHeartbeats 1000000 in
theorem fit_any (pv : Option Addr) (n cv : Nat) (p : Option Addr) (B m c : Nat) (ms : List Int) (w : World) (hr : Rd B w (.slice p m c) (I64 ms)) (hn : n ≤ 100000000000000) (hm : m ≤ 100000000000000) :
    Calls Tryd.prog 10 #[.slice pv n cv, .slice p m c] w fun e w' => e = .returned (.int .i64 (Sp.fit n ms)) ∧ ∃ q, w' = w.drewN q := by
  obtain ⟨hl, hlc⟩ := hr.len
  rw [I64_len] at hl
  subst hl
  by_cases h200 : 200 < n
  · have hf : Hid (Sp.fit n ms = 1) := by simp [Hid, Sp.fit, h200]
    go_enter Tryd.func10, Tryd.ntmps10
    go_wp2
    go_ret
    exact ⟨ret_int hf.out.symm, 0, rfl⟩
  · have hf : Hid (Sp.fit n ms = if Sp.upTo n 0 ms then 0 else 2) := by simp [Hid, Sp.fit, h200]
    go_enter Tryd.func10, Tryd.ntmps10
    go_wp2
    go_loopw [5] (fun i wr => ∃ k : Nat, k ≤ ms.length ∧ i = .int .i64 k ∧ Sp.upTo n 0 ms = Sp.upTo n (lo ms k) (ms.drop k) ∧ 0 ≤ lo ms k ∧ ∃ q, wr = w.drewN q) (fun i _ => ms.length - (intOf i).toNat)
    case atStart => exact ⟨0, Nat.zero_le _, rfl, by simp [lo], by simp [lo], 0, rfl⟩
    case round =>
      obtain ⟨k, hk, rfl, hup, hlo, q, rfl⟩ := hrel
      have HU := hide hup
      clear hup
      by_cases hlt : k < ms.length
      · obtain ⟨b, o, rfl, hb, hc⟩ := hr.at k _ (I64_at ms k hlt)
        have HOK := hide (upTo_ok (n := n) hlt)
        have HBAD := hide (upTo_bad (n := n) hlt)
        have hlk : lo ms (k + 1) = ms[k] + 1 := by simp [lo, List.getD, hlt]
        have HLK := hide hlk
        have hprev : 0 < k → w.cell? ⟨b, o + (k - 1), none⟩ = some (.int .i64 (lo ms k - 1)) := by
          intro h0
          obtain ⟨b2, o2, he, _, h2⟩ := hr.at (k - 1) _ (I64_at ms (k - 1) (by omega))
          simp only [Option.some.injEq, Addr.mk.injEq] at he
          obtain ⟨rfl, rfl, _⟩ := he
          rw [h2]
          have : lo ms k = ms[k - 1] + 1 := by simp [lo, List.getD, show k ≠ 0 by omega, show k - 1 < ms.length by omega]
          rw [this]
          congr 2
          omega
        have hl0 : k = 0 → lo ms k = 0 := by intro h; simp [lo, h]
        have HR := hide hr
        clear hlk hr
        generalize hM : ms[k] = x at *
        generalize hLL : lo ms k = l0 at *
        clear hM
        have HLL := hide hLL
        clear hLL
        have HF : Hid (Sp.upTo n 0 ms = false → Sp.fit n ms = 2) := fun h => by rw [hf.out, h]; rfl
        by_cases h1 : x < 0
        · have hd1 : decide (x < 0) = true := by simpa using h1
          have hbad := HF.out (by rw [unhide HU]; exact (unhide HBAD) (Or.inl (by omega)))
          have HX := hide hbad
          clear hbad
          go_wp2_with fail
          go_quiet (fail)
          go_wp2
          go_ret
          exact ⟨ret_int (unhide HX).symm, _, World.drewN_drewN ..⟩
        · by_cases h2 : (n : Int) ≤ x
          · have hd1 : decide (x < 0) = false := by simpa using h1
            have hd2 : decide ((n : Int) ≤ x) = true := by simpa using h2
            have hbad := HF.out (by rw [unhide HU]; exact (unhide HBAD) (Or.inr h2))
            have HX := hide hbad
            clear hbad
            go_wp2_with fail
            go_quiet (fail)
            go_wp2
            go_ret
            exact ⟨ret_int (unhide HX).symm, _, World.drewN_drewN ..⟩
          · by_cases h0 : 0 < k
            · have hpv := hprev h0
              by_cases h3 : x ≤ l0 - 1
              · have hd1 : decide (x < 0) = false := by simpa using h1
                have hd2 : decide ((n : Int) ≤ x) = false := by simpa using h2
                have hd3 : decide (x ≤ l0 - 1) = true := by simpa using h3
                have hd0 : decide ((0 : Int) < (k : Int)) = true := by simpa using h0
                have hbad := HF.out (by rw [unhide HU]; exact (unhide HBAD) (Or.inl (by omega)))
                have HX := hide hbad
                clear hbad hprev
                go_wp2_with fail
                go_quiet (fail)
                go_wp2
                go_ret
                exact ⟨ret_int (unhide HX).symm, _, World.drewN_drewN ..⟩
              · have hd1 : decide (x < 0) = false := by simpa using h1
                have hd2 : decide ((n : Int) ≤ x) = false := by simpa using h2
                have hd3 : decide (x ≤ l0 - 1) = false := by simpa using h3
                have hd0 : decide ((0 : Int) < (k : Int)) = true := by simpa using h0
                have HX := hide ((unhide HOK) (by omega) (by omega))
                clear hprev
                go_wp2_with fail
                go_quiet (fail)
                go_wp2
                go_roundw
                case rel => exact ⟨k + 1, by omega, by go_num, (unhide HU).trans (unhide HX), by rw [unhide HLK]; omega, _, rfl⟩
                case measure => simp [intOf]; omega
            · have hd1 : decide (x < 0) = false := by simpa using h1
              have hd2 : decide ((n : Int) ≤ x) = false := by simpa using h2
              have hd0 : decide ((0 : Int) < (k : Int)) = false := by simpa using h0
              have HX := hide ((unhide HOK) (by have := hl0 (by omega); omega) (by omega))
              clear hprev
              go_wp2_with fail
              go_quiet (fail)
              go_wp2
              go_roundw
              case rel => exact ⟨k + 1, by omega, by go_num, (unhide HU).trans (unhide HX), by rw [unhide HLK]; omega, _, rfl⟩
              case measure => simp [intOf]; omega
      · have he : k = ms.length := by omega
        have HX : Hid (Sp.fit n ms = 0) := by
          rw [Hid, hf.out, unhide HU, he]
          simp [Sp.upTo]
        clear he
        go_wp2
        go_ret
        exact ⟨ret_int (unhide HX).symm, _, rfl⟩
end Rf
end Go.Proofs.YtmefkcbchpjeoaaDoor
