import Derived.Test.YtolkjadklbchfaaDoorD5
import Derived.Test.YtolkjadklbchfaaDoorT1
import Derived.Deep.DeepCutAuto
/- Walks of the keeps: Turned. -/
open Go Go.RowKit
namespace Go.Proofs.YtolkjadklbchfaaDoor
namespace Kp
open Mem Rf Pr Ld

/-- A bit of bytes turned. -/
def flip (t : List Nat) (i : Nat) : List Nat := t.set (i / 8) (t[i / 8]?.getD 0 ^^^ 2 ^ (i % 8))
theorem pow8 (i : Nat) : 2 ^ (i % 8) < 256 := Nat.lt_of_lt_of_le (Nat.pow_lt_pow_right (by omega) (Nat.mod_lt i (by omega) : i % 8 < 8)) (by decide)
theorem flip_len (t : List Nat) (i : Nat) : (flip t i).length = t.length := by simp [flip]
theorem flip_lt {t : List Nat} (h : ∀ x ∈ t, x < 256) (i : Nat) : ∀ x ∈ flip t i, x < 256 := by
  intro x hx
  rcases List.mem_or_eq_of_mem_set hx with h1 | h1
  · exact h x h1
  · subst h1
    exact Nat.xor_lt_two_pow (n := 8) (Sp.getD_lt h (by omega) _) (pow8 i)
theorem flip_bit {t : List Nat} {i : Nat} (hi : i < 8 * t.length) (j : Nat) : Sp.bitOf (flip t i) j = (Sp.bitOf t j ^^ decide (j = i)) := by
  unfold Sp.bitOf flip
  rw [List.getElem?_set]
  by_cases h : i / 8 = j / 8
  · rw [if_pos h, if_pos (by omega)]
    simp only [Option.getD_some]
    rw [Nat.testBit_xor, Nat.testBit_two_pow, h]
    congr 1
    rw [decide_eq_decide]
    omega
  · rw [if_neg h, show decide (j = i) = false from by simp; omega]
    simp
/-- The bits of how that lie in the row, up to k, are turned. -/
def Tu (E t : List Nat) (first u k : Nat) : Prop := t.length = E.length ∧ (∀ x ∈ t, x < 256) ∧ ∀ j, j < 8 * E.length → Sp.bitOf t j = (Sp.bitOf E j ^^ decide (first ≤ j ∧ j < first + k ∧ u.testBit (j - first) = true))
theorem Tu.start {E : List Nat} (h : ∀ x ∈ E, x < 256) (first u : Nat) : Tu E E first u 0 := ⟨rfl, h, fun j _ => by rw [show decide (first ≤ j ∧ j < first + 0 ∧ u.testBit (j - first) = true) = false from by simp; omega]; simp⟩
theorem Tu.yes {E t : List Nat} {first u k : Nat} (h : Tu E t first u k) (hk : first + k < 8 * E.length) (hb : u.testBit k = true) : Tu E (flip t (first + k)) first u (k + 1) := by
  obtain ⟨h1, h2, h3⟩ := h
  refine ⟨by rw [flip_len, h1], flip_lt h2 _, fun j hj => ?_⟩
  rw [flip_bit (by omega), h3 j hj]
  by_cases he : j = first + k
  · subst he
    simp [hb]
  · rw [show decide (j = first + k) = false from by simp [he], Bool.xor_false]
    congr 1
    rw [decide_eq_decide]
    constructor
    · rintro ⟨a, b, c⟩
      exact ⟨a, by omega, c⟩
    · rintro ⟨a, b, c⟩
      exact ⟨a, by omega, c⟩
theorem Tu.no {E t : List Nat} {first u k : Nat} (h : Tu E t first u k) (hb : u.testBit k = false) : Tu E t first u (k + 1) := by
  obtain ⟨h1, h2, h3⟩ := h
  refine ⟨h1, h2, fun j hj => ?_⟩
  rw [h3 j hj]
  congr 1
  rw [decide_eq_decide]
  constructor
  · intro h
    exact ⟨h.1, by omega, h.2.2⟩
  · intro h
    refine ⟨h.1, ?_, h.2.2⟩
    have : j - first ≠ k := fun e => by rw [e, hb] at h; simp at h
    omega
theorem Tu.win {E t : List Nat} {first u k : Nat} (h : Tu E t first u k) (hk : k ≤ 32) : ∀ j, j < 8 * E.length → Sp.bitOf E j ≠ Sp.bitOf t j → first ≤ j ∧ j < first + 32 := by
  intro j hj hne
  rw [h.2.2 j hj] at hne
  by_cases hd : first ≤ j ∧ j < first + k ∧ u.testBit (j - first) = true
  · exact ⟨hd.1, by omega⟩
  · rw [decide_eq_false hd, Bool.xor_false] at hne
    exact absurd rfl hne
theorem xor_pow (x i : Nat) (hx : x < 256) : bits BinOp.xor IntKind.u8 (x : Int) ((2 : Int) ^ (i % 8) % 256) = ((x ^^^ 2 ^ (i % 8) : Nat) : Int) := by
  have hp := pow8 i
  have e : (2 : Int) ^ (i % 8) % 256 = ((2 ^ (i % 8) : Nat) : Int) := by
    rw [← Nat.mod_eq_of_lt hp]
    simp
  rw [e]
  exact u8_xor_nat x _ hx hp

set_option maxHeartbeats 4000000 in
set_option maxRecDepth 20000 in
theorem kturned_any (B : Nat) (p : Option Addr) (n c : Nat) (xs : List Nat) (q : Option Addr) (m d : Nat) (ys : List Int) (few at' : Int) (how : Nat) (w : World) (hv : Rd B w (.slice p n c) (U64 xs)) (hy : Rd B w (.slice q m d) (I64 ys)) (hB : B ≤ w.heap.size) (hbig : ∀ x ∈ xs, x < 18446744073709551616) (hn : n ≤ 17592186044000)
    (hfew : -9223372036854775808 ≤ few ∧ few ≤ 9223372036854775807) (hat : -9223372036854775808 ≤ at' ∧ at' ≤ 9223372036854775807) (hhow : how < 18446744073709551616) (hT : Tab w) (hU : Bru w) :
    Calls Tryd.prog 7 #[.slice p n c, .slice q m d, .int .i64 few, .int .i64 at', .int .u64 (how : Nat)] w fun e w' => e = .returned (.bool true) ∧ Below w.heap.size w w' := by
  have HEN := hide (kencoded_any B p n c xs q m d ys few w hv hy hB hbig hn hfew hT hU)
  have HT := hide hT
  have HU := hide hU
  clear hv hy hbig hT hU hfew
  go_enter Tryd.func7, Tryd.ntmps7
  go_wp2_with fail
  refine (unhide HEN).mono ?_
  rintro e w1 ⟨X, pV, cV, pM, cM, pb, cb, vs, ms, rfl, hask, rV, rM, oB, hb1⟩
  have hfit := hask.fit
  have hel := enc_len_small hfit
  have hbl := bel_trans hb1 (alloc_bel w1 (.cells #[.slice pV vs.length cV, .slice pM ms.length cM] 25))
  have HLO := hide (kloads_own _ pb _ cb vs ms _ (Rd.owned (oB.alloc (.cells #[.slice pV vs.length cV, .slice pM ms.length cM] 25))) hfit ((unhide HT).below hbl (unhide HT).1) ((unhide HU).below hbl (unhide HU).1))
  have HF := hide hfit
  have HLT := hide (enc_lt vs ms hfit)
  have HOB := hide (oB.alloc (.cells #[.slice pV vs.length cV, .slice pM ms.length cM] 25))
  have HBL := hide hbl
  clear hask rV rM oB hb1 hbl hfit HEN
  generalize hEE : Sp.encode vs ms = E at *
  have HEE := hide hEE
  clear hEE
  obtain ⟨he1, he2⟩ := hel
  obtain ⟨fi, hfi, hpa⟩ := kpick_fix at' (8 * E.length) (by omega) (by omega) hat
  rw [show ((8 * E.length : Nat) : Int) = 8 * (E.length : Int) from by omega] at hpa
  have HPA := hide hpa
  clear hpa hat
  go_wp2_with fail
  generalize w1.alloc (.cells #[.slice pV vs.length cV, .slice pM ms.length cM] 25) = wa at *
  refine (unhide HLO).mono ?_
  rintro e w2 ⟨Y, rfl, _, hb2⟩
  have HO2 := hide (own_later (unhide HOB) hb2)
  have HBW2 := hide (bel_trans (unhide HBL) hb2)
  clear hb2 HLO HOB HBL
  go_upto_if 47 with fail
  go_cut [17] (fun a wx => ∃ u : Nat, a = .int .u64 (u : Nat) ∧ u < 4294967296 ∧ w2 = wx)
  case first =>
    by_cases h0 : how % 4294967296 = 0
    · have h0i : (how : Int) % 4294967296 = 0 := by omega
      have h0b : ((how : Int) % 4294967296 == 0) = true := by rw [beq_iff_eq]; exact h0i
      go_wp2_with fail
      go_meet
      exact ⟨1, rfl, by omega, rfl⟩
    · have h0b : ((how : Int) % 4294967296 == 0) = false := by rw [beq_eq_false_iff_ne]; omega
      go_wp2_with fail
      go_meet
      exact ⟨how % 4294967296, by simp, by omega, rfl⟩
  case rest =>
    obtain ⟨u, rfl, hu, rfl⟩ := hcut
    obtain ⟨gb, cb', hform, hgc, hgb, hgl, hcells⟩ := own_form (unhide HO2) (by omega)
    simp only [Value.slice.injEq] at hform
    obtain ⟨rfl, _, rfl⟩ := hform
    clear hgl hcells
    have HS : Hid (Tu E E fi u 0) := Tu.start (unhide HLT) fi u
    go_wp2_with fail
    refine at_same (unhide HPA _) ?_
    go_wp2
    go_loopw [19, 20] (fun tu ii wr => ∃ (k : Nat) (b : Bool) (t : List Nat), k ≤ 32 ∧ ii = .int .i64 (k : Nat) ∧ tu = .bool b ∧ Tu E t fi u k ∧ (b = true → ∃ j, j < 8 * E.length ∧ Sp.bitOf E j ≠ Sp.bitOf t j) ∧ (b = false → t = E) ∧ wr.ownsRow w.heap.size 5 1 (.slice (some ⟨gb, 0, none⟩) E.length cb) E.length (By t) ∧ Below w.heap.size w wr) (fun _ ii _ => 32 - (intOf ii).toNat)
    case atStart => exact ⟨0, false, E, by omega, rfl, rfl, unhide HS, by simp, by simp, unhide HO2, unhide HBW2⟩
    case round =>
      obtain ⟨k, b, t, hk, rfl, rfl, htu, hbt, hbf, hown, hbel⟩ := hrel
      clear HS
      by_cases hin : k < 32 ∧ fi + k < 8 * E.length
      · obtain ⟨hk32, hfk⟩ := hin
        obtain ⟨i, hi⟩ : ∃ i, fi + k = i := ⟨_, rfl⟩
        have hik : (fi : Int) + (k : Int) = (i : Int) := by omega
        have hi8 : i / 8 < E.length := by omega
        have htl : t.length = E.length := htu.1
        have hcell := (hown.cellAt (i / 8) (by omega)).trans (By_at t (i / 8) (by omega))
        have hfz := hown.frozenAt (i / 8)
        have hx : t[i / 8] < 256 := htu.2.1 _ (List.getElem_mem _)
        have hfl : flip t i = t.set (i / 8) (t[i / 8] ^^^ 2 ^ (i % 8)) := by
          unfold flip
          rw [List.getElem?_eq_getElem (by omega)]
          rfl
        have HXO := hide (xor_pow t[i / 8] i hx)
        have hbit := and1_u64 u (by omega) k
        cases htb : u.testBit k with
        | true =>
          rw [htb] at hbit
          have hty := htu.yes hfk htb
          rw [hi] at hty
          have hwit : ∃ j, j < 8 * E.length ∧ Sp.bitOf E j ≠ Sp.bitOf (flip t i) j := by
            refine ⟨i, by omega, ?_⟩
            rw [hty.2.2 i (by omega), decide_eq_true ⟨by omega, by omega, by rw [show i - fi = k from by omega]; exact htb⟩]
            cases Sp.bitOf E i <;> simp
          have HTY := hide (And.intro hty hwit)
          have HFL := hide hfl
          have HOW := hide (And.intro hown hbel)
          have hgb2 : w.heap.size ≤ gb := hgb
          clear htu hbt hbf hown hbel hty hwit hfl htb
          generalize t[i / 8] = x at *
          have hI : i < 8 * E.length := by omega
          clear htl hfk hi
          go_wp2_with fail
          go_region
          all_goals go_wp2
          go_roundw
          case rel =>
            have hs := (unhide HOW).1.stored (i / 8) (.int .u8 ((x ^^^ 2 ^ (i % 8) : Nat) : Int))
            rw [← By_set, ← unhide HFL] at hs
            have hbl := ((unhide HOW).2.setCell hgb2 (.int .u8 ((x ^^^ 2 ^ (i % 8) : Nat) : Int)) : Below w.heap.size w (wr.setCell ⟨gb, i / 8, none⟩ (.int .u8 ((x ^^^ 2 ^ (i % 8) : Nat) : Int))))
            rw [unhide HXO]
            first
              | exact ⟨k + 1, true, flip t i, by omega, by go_num, rfl, (unhide HTY).1, fun _ => (unhide HTY).2, by simp, hs.1.drew, hbl.drew⟩
              | ((repeat apply Exists.intro); refine ⟨?_, rfl⟩; exact ⟨k + 1, true, flip t i, by omega, by go_num, rfl, (unhide HTY).1, fun _ => (unhide HTY).2, by simp, hs.1.drew, hbl.drew⟩)
          case measure => simp [intOf]; omega
        | false =>
          rw [htb] at hbit
          have HTN := hide (And.intro (htu.no htb) (And.intro hbt (And.intro hbf (And.intro hown hbel))))
          clear htu hbt hbf hown hbel htb hcell hfz hfl HXO hx htl
          go_wp2
          go_roundw
          case rel => first | exact ⟨k + 1, b, t, by omega, by go_num, rfl, (unhide HTN).1, (unhide HTN).2.1, (unhide HTN).2.2.1, (unhide HTN).2.2.2⟩ | ((repeat apply Exists.intro); refine ⟨?_, rfl⟩; exact ⟨k + 1, b, t, by omega, by go_num, rfl, (unhide HTN).1, (unhide HTN).2.1, (unhide HTN).2.2.1, (unhide HTN).2.2.2⟩)
          case measure => simp [intOf]; omega
      · have HTU := hide (And.intro htu (And.intro hbt hbf))
        have hlt := htu.2.1
        have HLD := hide (load_any wr.heap.size (some ⟨gb, 0, none⟩) E.length cb t wr (Rd.owned hown) (Nat.le_refl _) hlt (by omega) ((unhide HT).below hbel (unhide HT).1) ((unhide HU).below hbel (unhide HU).1))
        have HBE := hide hbel
        clear htu hbt hbf hlt hown hbel
        have hex : (k < 32 ∧ ¬ fi + k < 8 * E.length) ∨ ¬ k < 32 := by omega
        have HRES : Hid (∀ (w' : World) (pv : Option Addr) (g : Nat), LoadRes wr.heap.size w' t pv g → (b = true → pv = none ∧ g ≠ 0) ∧ (b = false → (∃ Z, pv = some ⟨Z, 0, none⟩) ∧ g = 0)) := by
          intro w' pv g hres
          obtain ⟨h1, h2, h3⟩ := unhide HTU
          refine ⟨fun hb => ?_, fun hb => ?_⟩
          · have hw := h2 hb
            have hwin := h1.win hk
            have hl := h1.1
            rw [← unhide HEE] at hw hwin hl
            exact res_turned (unhide HF) hl h1.2.1 hwin hw hres
          · rw [h3 hb, ← unhide HEE] at hres
            rcases hres with ⟨_, _, q3⟩ | ⟨_, _, _, q3⟩ | ⟨_, _, _, _, q3⟩ | ⟨Z, us, ns, q1, q2, _, _, _⟩
            · exact absurd (enc_head (unhide HF)).1 q3
            · exact absurd (enc_body (unhide HF)) q3
            · exact absurd rfl (q3 vs ms (unhide HF))
            · exact ⟨⟨Z, q1⟩, q2⟩
        clear hin
        rcases hex with ⟨hk1, hk2⟩ | hk1
        all_goals
          go_wp2_with fail
          refine (unhide HLD).mono ?_
          rintro e w5 ⟨pv, g, rfl, hres, hb5⟩
          have hr := unhide HRES w5 pv g hres
          have HB5 := hide (bel_trans (unhide HBE) hb5)
          clear hres hb5 HLD
          cases b with
          | true =>
            obtain ⟨rfl, hg0⟩ := hr.1 rfl
            have hgb0 : ((g : Int) == 0) = false := by rw [beq_eq_false_iff_ne]; omega
            clear hr
            go_wp2
            go_ret
            exact ⟨ret_bool (by simpa using hg0), unhide HB5⟩
          | false =>
            obtain ⟨⟨Z, rfl⟩, rfl⟩ := hr.2 rfl
            clear hr
            go_wp2
            go_ret
            exact ⟨rfl, unhide HB5⟩
end Kp
end Go.Proofs.YtolkjadklbchfaaDoor
