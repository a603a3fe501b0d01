/- Walks of the program: layer.parted. -/
import Derived.Test.YtmefkcbchpjeoaaDoorPrD
open Go Go.RowKit
namespace Go.Proofs.YtmefkcbchpjeoaaDoor
namespace Pr
open Mem Rf

/-- The loop's state in parted. -/
structure PtSt (base : Nat) (w wr : World) (now : List Nat) (no : Value) (B' : Nat) (k i : Nat) (ze on : Value) : Prop where
  rd : Rd B' wr no (U64 now)
  o2 : wr.ownsRow base 34 1 ze (zer now k i).length (U64 (zer now k i))
  o3 : wr.ownsRow base 34 1 on (one now k i).length (U64 (one now k i))
  a6 : Ap ze on
  bel : Below base w wr

theorem PtSt.nul {base : Nat} {w wr w2 : World} {now : List Nat} {no : Value} {B' : Nat} {k i : Nat} {ze on ze' : Value} {o : Obj} (h : PtSt base w wr now no B' k i ze on) (hb0 : base ≤ w.heap.size) (hBb : B' ≤ base) (hi : i < now.length) (hbv : now[i].testBit k = false)
    (hown : w2.ownsRow base 34 1 ze' ((zer now k i).length + [Value.int .u64 (now[i] : Int)].length) (U64 (zer now k i) ++ [Value.int .u64 (now[i] : Int)])) (hg : (wr.alloc o).grownBy w2 ze.ownBlock) (hat : ze'.ownBlock = ze.ownBlock ∨ ze'.ownBlock = some (wr.alloc o).heap.size) :
    PtSt base w w2 now no B' k (i + 1) ze' on := by
  have r3 := app_own h.o3 h.a6.symm hg hat
  have r4 := app_below h.bel hb0 h.o2 hg
  refine ⟨?_, ?_, ?_, r3.2.symm, r4.1⟩
  · refine (h.rd.alloc (by have := h.bel.size; omega) o).grown hg (by have := h.bel.size; simp; omega) ?_
    intro j hj
    have := (h.o2.lt j hj).1
    omega
  · rw [zer_snoc hi, hbv, if_neg (by simp), U64_app, List.length_append]
    exact hown
  · rw [one_snoc hi, hbv, if_neg (by simp), List.append_nil]
    exact r3.1

theorem PtSt.ein {base : Nat} {w wr w2 : World} {now : List Nat} {no : Value} {B' : Nat} {k i : Nat} {ze on on' : Value} {o : Obj} (h : PtSt base w wr now no B' k i ze on) (hb0 : base ≤ w.heap.size) (hBb : B' ≤ base) (hi : i < now.length) (hbv : now[i].testBit k = true)
    (hown : w2.ownsRow base 34 1 on' ((one now k i).length + [Value.int .u64 (now[i] : Int)].length) (U64 (one now k i) ++ [Value.int .u64 (now[i] : Int)])) (hg : (wr.alloc o).grownBy w2 on.ownBlock) (hat : on'.ownBlock = on.ownBlock ∨ on'.ownBlock = some (wr.alloc o).heap.size) :
    PtSt base w w2 now no B' k (i + 1) ze on' := by
  have r3 := app_own h.o2 h.a6 hg hat
  have r4 := app_below h.bel hb0 h.o3 hg
  refine ⟨?_, ?_, ?_, r3.2, r4.1⟩
  · refine (h.rd.alloc (by have := h.bel.size; omega) o).grown hg (by have := h.bel.size; simp; omega) ?_
    intro j hj
    have := (h.o3.lt j hj).1
    omega
  · rw [zer_snoc hi, hbv, if_pos rfl, List.append_nil]
    exact r3.1
  · rw [one_snoc hi, hbv, if_pos rfl, U64_app, List.length_append]
    exact hown

set_option maxHeartbeats 1000000 in
theorem parted_any (p : Option Addr) (B n c k : Nat) (now : List Nat) (w : World) (hr : Rd B w (.slice p n c) (U64 now)) (hB : B ≤ w.heap.size) (hv : ∀ x ∈ now, x < 18446744073709551616) (hn : n ≤ 1000) (hk : k < 64) :
    Calls Tryd.prog 58 #[.slice p n c, .int .i64 k] w fun e w' => ∃ v, e = .returned v ∧ w'.ownsRow w.heap.size 34 1 v n (U64 (Sp.part now k)) ∧ Below w.heap.size w w' := by
  obtain ⟨hl, hlc⟩ := hr.len
  rw [U64_len] at hl
  have HL := hide hl
  have HR := hide hr
  have HV := hide hv
  obtain ⟨i0, hi0, hz0, hz1, hz2⟩ := info_parts Ty.u64
  have HI := hide (And.intro hi0 (And.intro hz0 (And.intro hz1 hz2)))
  clear hz2 hi0 hz0 hz1 hr hl hv
  go_enter Tryd.func58, Tryd.ntmps58
  go_wp2_with (at_make; refine wpList_make_own _ rfl (.const (.int .i64 0)) (.tmp 10) 35 rfl w.heap.size 34 i0 (.int .u64 0) 1 Tryd.underlying35 (unhide HI).1 (unhide HI).2.1 (unhide HI).2.2.1 .i64 .i64 _ n rfl rfl rfl (by rw [(unhide HI).2.2.2]; omega) (by unfold maxLen; omega) (Nat.le_refl _) ?_; intro w1 hown1 hg1)
  have hb1 : Below w.heap.size w w1 := (Below.refl _ _).grown hg1 (Nat.le_refl _) (by intro k hk; cases hk)
  have HS : Hid (PtSt w.heap.size w w1 now (.slice p n c) B k 0 (.slice (some ⟨w.heap.size, 0, none⟩) 0 n) (.slice none 0 0)) :=
    ⟨(unhide HR).below (hb1.mono hB), by simpa [zer, U64] using hown1, World.ownsRow_nil _ _ _ _, Ap.nil _, hb1⟩
  clear hown1 hg1 hb1 HR
  go_loopw [5, 6, 14] (fun ze on ii wq => ∃ i : Nat, i ≤ n ∧ ii = .int .i64 i ∧ PtSt w.heap.size w wq now (.slice p n c) B k i ze on) (fun _ _ ii _ => n - (intOf ii).toNat)
  case atStart => exact ⟨0, Nat.zero_le _, rfl, unhide HS⟩
  case round =>
    obtain ⟨i, hi, rfl, hin⟩ := hrel
    clear HS
    have hz0 := zer_le now k i
    have ho0 := one_le now k i
    have hsz : w.heap.size ≤ wr.heap.size := hin.bel.size
    by_cases hlt : i < n
    · have hlt' : i < now.length := by rw [← unhide HL]; exact hlt
      obtain ⟨b, o, rfl, hb, hc⟩ := hin.rd.at i _ (U64_at now i hlt')
      have hx : now[i] < 18446744073709551616 := unhide HV _ (List.getElem_mem hlt')
      have hroom1 : (zer now k i).length ≤ 10000000000000 := by omega
      have hroom2 : (one now k i).length ≤ 10000000000000 := by omega
      have HC := hide (fun W => has_any now[i] k W hx hk)
      cases hbv : now[i].testBit k with
      | false =>
        rw [hbv] at HC
        generalize hxx : now[i] = x at *
        have HXX := hide hxx
        have HBV := hide hbv
        have HIN := hide hin
        clear hxx hbv hin
        go_wp2_with (first
          | (go_at_call 57; refine at_same (unhide HC _) ?_)
          | (at_builtin; refine wpList_app _ rfl (.tmp 25) (.tmp 27) 35 rfl w.heap.size 34 (.int .u64 0) 8 Tryd.underlying35 Ty.u64 rfl _ _ _ rfl ((unhide HIN).o2.alloc _) _ _ rfl ⟨_, Rd.one wr (.int .u64 (x : Int)) 34⟩ (one_int _ _) (room1 hroom1) (room8b hroom1) (by simp; omega) ?_; intro v2 w2 hown2 hg2 hb2; have R2 := PtSt.nul (unhide HIN) (Nat.le_refl _) hB hlt' (by rw [unhide HXX]; exact unhide HBV) (by rw [unhide HXX]; exact hown2) hg2 hb2; have HR2 := hide R2; clear R2 hown2 hg2 hb2))
        go_roundw
        case rel => exact ⟨i + 1, by omega, by go_num, unhide HR2⟩
        case measure => simp [intOf]; omega
      | true =>
        rw [hbv] at HC
        generalize hxx : now[i] = x at *
        have HXX := hide hxx
        have HBV := hide hbv
        have HIN := hide hin
        clear hxx hbv hin
        go_wp2_with (first
          | (go_at_call 57; refine at_same (unhide HC _) ?_)
          | (at_builtin; refine wpList_app _ rfl (.tmp 21) (.tmp 23) 35 rfl w.heap.size 34 (.int .u64 0) 8 Tryd.underlying35 Ty.u64 rfl _ _ _ rfl ((unhide HIN).o3.alloc _) _ _ rfl ⟨_, Rd.one wr (.int .u64 (x : Int)) 34⟩ (one_int _ _) (room1 hroom2) (room8b hroom2) (by simp; omega) ?_; intro v2 w2 hown2 hg2 hb2; have R2 := PtSt.ein (unhide HIN) (Nat.le_refl _) hB hlt' (by rw [unhide HXX]; exact unhide HBV) (by rw [unhide HXX]; exact hown2) hg2 hb2; have HR2 := hide R2; clear R2 hown2 hg2 hb2))
        go_roundw
        case rel => exact ⟨i + 1, by omega, by go_num, unhide HR2⟩
        case measure => simp [intOf]; omega
    · have he : i = n := by omega
      subst he
      have HIN := hide hin
      have ez : zer now k i = now.filter (fun v => !v.testBit k) := by unfold zer; rw [List.take_of_length_le (by rw [← unhide HL]; exact Nat.le_refl _)]
      have eo : one now k i = now.filter (fun v => v.testBit k) := by unfold one; rw [List.take_of_length_le (by rw [← unhide HL]; exact Nat.le_refl _)]
      have HP : Hid (U64 (zer now k i) ++ U64 (one now k i) = U64 (Sp.part now k)) := by rw [Hid, ez, eo, ← U64_app]; rfl
      have HPL : Hid ((zer now k i).length + (U64 (one now k i)).length = i) := by
        have e2 : (zer now k i).length + (one now k i).length = (Sp.part now k).length := by rw [ez, eo, ← List.length_append]; rfl
        rw [Hid, U64_len, e2, Sp.part_len, ← unhide HL]
      clear hin ez eo
      go_wp2_with (at_builtin; refine wpList_app _ rfl (.tmp 30) (.tmp 31) 35 rfl w.heap.size 34 (.int .u64 0) 8 Tryd.underlying35 Ty.u64 rfl _ _ _ rfl (unhide HIN).o2 _ _ rfl ⟨_, Rd.owned (unhide HIN).o3⟩ (one_U64 _) (by rw [U64_len]; unfold maxLen; omega) (by rw [U64_len]; omega) (by omega) ?_; intro v1 w2 hown1 hg1 hb1; have R1 := (apps_below (unhide HIN).bel (Nat.le_refl _) (unhide HIN).o2 hg1).1; rw [HP.out, HPL.out] at hown1; have HR1 := hide (And.intro hown1 R1); clear R1 hown1 hg1 hb1)
      go_ret
      exact ⟨v1, rfl, unhide HR1⟩
end Pr
end Go.Proofs.YtmefkcbchpjeoaaDoor
