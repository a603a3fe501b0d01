import Derived.Test.YtolkjadklbchfaaDoorD5
import Derived.Test.YtolkjadklbchfaaDoorK1
import Derived.Deep.DeepCutAuto
/- Walks of the keeps: Returns. -/
open Go Go.RowKit
namespace Go.Proofs.YtolkjadklbchfaaDoor
namespace Kp
open Mem Rf Pr Ld

set_option maxHeartbeats 4000000 in
set_option maxRecDepth 20000 in
theorem kreturns_any (B : Nat) (p : Option Addr) (n c : Nat) (xs : List Nat) (q : Option Addr) (m d : Nat) (ys : List Int) (few l r k : Int) (w : World) (hv : Rd B w (.slice p n c) (U64 xs)) (hy : Rd B w (.slice q m d) (I64 ys)) (hB : B ≤ w.heap.size) (hbig : ∀ x ∈ xs, x < 18446744073709551616) (hn : n ≤ 17592186044000)
    (hfew : -9223372036854775808 ≤ few ∧ few ≤ 9223372036854775807) (hl : -9223372036854775808 ≤ l ∧ l ≤ 9223372036854775807) (hr : -9223372036854775808 ≤ r ∧ r ≤ 9223372036854775807) (hk : -9223372036854775808 ≤ k ∧ k ≤ 9223372036854775807) (hT : Tab w) (hU : Bru w) :
    Calls Tryd.prog 5 #[.slice p n c, .slice q m d, .int .i64 few, .int .i64 l, .int .i64 r, .int .i64 k] w fun e w' => e = .returned (.bool true) ∧ Below w.heap.size w w' := by
  have HEN := hide (kencoded_any B p n c xs q m d ys few w hv hy hB hbig hn hfew hT hU)
  have HT := hide hT
  have HU := hide hU
  clear hv hy hbig hT hU hfew
  go_enter Tryd.func5, Tryd.ntmps5
  go_wp2_with fail
  refine (unhide HEN).mono ?_
  rintro e w1 ⟨X, pV, cV, pM, cM, pb, cb, vs, ms, rfl, hask, rV, rM, oB, hb1⟩
  have hfit := hask.fit
  have hn2 := hfit.len
  have hm2 : ms.length ≤ 200 := Nat.le_trans hfit.mlen hfit.len
  have hbl := bel_trans hb1 (alloc_bel w1 (.cells #[.slice pV vs.length cV, .slice pM ms.length cM] 25))
  have k0 := box5 w1 #[.slice pV vs.length cV, .slice pM ms.length cM] 25 0 _ rfl
  have k1 := box5 w1 #[.slice pV vs.length cV, .slice pM ms.length cM] 25 1 _ rfl
  have HLO := hide (kloads_own _ pb _ cb vs ms _ (Rd.owned (oB.alloc (.cells #[.slice pV vs.length cV, .slice pM ms.length cM] 25))) hfit ((unhide HT).below hbl (unhide HT).1) ((unhide HU).below hbl (unhide HU).1))
  have HK : Hid (∀ w' : World, Below (w1.alloc (.cells #[.slice pV vs.length cV, .slice pM ms.length cM] 25)).heap.size (w1.alloc (.cells #[.slice pV vs.length cV, .slice pM ms.length cM] 25)) w' → (w'.cell? ⟨w1.heap.size, 0, none⟩ = some (.slice pV vs.length cV) ∧ w'.cell? ⟨w1.heap.size, 1, none⟩ = some (.slice pM ms.length cM)) ∧ Rd w'.heap.size w' (.slice pV vs.length cV) (U64 vs) ∧ Rd w'.heap.size w' (.slice pM ms.length cM) (I64 (NI ms)) ∧ Rd w'.heap.size w' (.slice pb (Sp.encode vs ms).length cb) (By (Sp.encode vs ms)) ∧ Pr.Ask w' X vs ms ∧ Below w.heap.size w w') := by
    intro w' hb
    have hb2 := bel_trans (alloc_bel w1 _) hb
    exact ⟨⟨later_cell k0 hb, later_cell k1 hb⟩, (rV.below hb2).mono hb2.size, (rM.below hb2).mono hb2.size, ((Rd.owned oB).below hb2).mono hb2.size, hask.later hb2, bel_trans hb1 hb2⟩
  have HF := hide hfit
  generalize hnn : vs.length = nn at *
  generalize hmm : ms.length = mm at *
  have HNN := hide (And.intro hnn hmm)
  clear hnn hmm hask rV rM oB hb1 hbl hfit HEN
  obtain ⟨kl, hkl, hpl⟩ := kpick_fix l (nn + 1) (by omega) (by omega) hl
  obtain ⟨kr, hkr, hpr⟩ := kpick_fix r (nn + 2) (by omega) (by omega) hr
  obtain ⟨kk, hkk, hpk⟩ := kpick_fix k (nn + 1) (by omega) (by omega) hk
  rw [show ((nn + 1 : Nat) : Int) = (nn : Int) + 1 from by omega] at hpl hpk
  rw [show ((nn + 2 : Nat) : Int) = (nn : Int) + 2 from by omega] at hpr
  have HPL := hide hpl
  have HPR := hide hpr
  have HPK := hide hpk
  clear hpl hpr hpk hl hr hk
  go_wp2_with fail
  refine (unhide HLO).mono ?_
  rintro e w2 ⟨Y, rfl, hasky, hb2⟩
  have HY2 := hide hasky
  have HB2 := hide hb2
  clear hasky hb2 HLO k0 k1
  go_wp2_with fail
  refine (ktold_any Y vs ms w2 (unhide HY2)).mono ?_
  rintro e w5 ⟨V2, M2, rfl, ho5, hp5, hb5⟩
  rw [(unhide HNN).1] at ho5
  rw [(unhide HNN).2] at hp5
  obtain ⟨pW, cW, rfl, _⟩ := own_slice ho5
  obtain ⟨pN, cN, rfl, _⟩ := own_slice hp5
  have hb6 := bel_trans hb5 (alloc_bel w5 (.cells #[.slice pW nn cW, .slice pN mm cN] 25))
  have hb26 := bel_trans (unhide HB2) hb6
  obtain ⟨⟨f0, f1⟩, r6, s6, _, _, _⟩ := unhide HK _ hb26
  have g0 := box5 w5 #[.slice pW nn cW, .slice pN mm cN] 25 0 _ rfl
  have g1 := box5 w5 #[.slice pW nn cW, .slice pN mm cN] 25 1 _ rfl
  have HAL := hide (kalike_any _ pV nn cV pM mm cM pW cW pN cN vs ms _ r6 s6 (Rd.owned (ho5.alloc _)) (Rd.owned (hp5.alloc _)) (Nat.le_refl _) (by omega) (by omega))
  have HY6 := hide ((unhide HY2).later hb6)
  have HB26 := hide hb26
  clear r6 s6 ho5 hp5 hb5 hb6 hb26 HY2 HB2
  go_wp2_with fail
  refine (unhide HAL).mono ?_
  rintro e w7 ⟨rfl, hb7⟩
  have hb27 := bel_trans (unhide HB26) hb7
  obtain ⟨⟨d0, d1⟩, _, _, rb7, _, hbw7⟩ := unhide HK _ hb27
  have HY7 := hide ((unhide HY6).later hb7)
  have cvA := conv_rd (P := Tryd.prog) w7.drew 45 5 9 (rd_drew rb7) Tryd.underlying45 Tryd.underlying5 Tryd.underlying9
  obtain ⟨lo, hi, hix⟩ := (unhide HY7).ix
  have HENC := hide (encode_any lo hi Y vs ms w7.drew (idx_later hix (drew_bel _) (Nat.le_refl _) (Nat.le_refl _)) (unhide HF) ((unhide HT).below hbw7.drew (unhide HT).1))
  have HRB := hide rb7
  have HB27 := hide hb27
  clear hb7 hb27 rb7 hbw7 hix HY6 HB26 HAL f0 f1 g0 g1
  go_upto_region 9 with fail
  go_cut [22] (fun t wx => t = .bool true ∧ Below w7.heap.size w7 wx)
  case first =>
    generalize hSS : str (Sp.encode vs ms) = S at *
    have HSS := hide hSS
    clear hSS
    go_region_with (first
      | (go_at_call 25; refine (unhide HENC).mono ?_; rintro e w8 ⟨v8, rfl, ho8, hb8⟩; rw [By_len] at ho8; obtain ⟨pe, ce, rfl, _⟩ := own_slice ho8; have cvB := conv_rd (P := Tryd.prog) w8 45 5 9 (Rd.owned ho8) Tryd.underlying45 Tryd.underlying5 Tryd.underlying9; have cvC := conv_rd (P := Tryd.prog) w8 45 5 9 ((rd_drew (unhide HRB)).below hb8) Tryd.underlying45 Tryd.underlying5 Tryd.underlying9; rw [unhide HSS] at cvB cvC; have HB8 := hide hb8; clear ho8 hb8))
    all_goals
      go_wp2
      go_meet
      exact ⟨by simp, bel_trans (drew_bel _) (unhide HB8)⟩
  case rest =>
    obtain ⟨rfl, hbc⟩ := hcut
    obtain ⟨⟨d0, d1⟩, _, _, _, hx8, hbw8⟩ := unhide HK _ (bel_trans (unhide HB27) hbc)
    have HX8 := hide hx8
    have HY8 := hide ((unhide HY7).later hbc)
    have HBW8 := hide hbw8
    clear hx8 hbw8 hbc cvA HENC HRB HB27 HY7 HK
    go_wp2_with fail
    refine at_same (unhide HPL _) ?_
    go_wp2_with fail
    refine at_same (unhide HPR _) ?_
    go_wp2_with fail
    refine at_same (unhide HPK _) ?_
    go_wp2_with fail
    refine (least_any X vs ms (kl : Int) (kr : Int) wc (unhide HX8)).mono ?_
    rintro e w9 ⟨a, ea, rfl, hres1, hb9⟩
    have HR1 := hide hres1
    have HB9 := hide hb9
    clear hres1 hb9
    go_wp2_with fail
    refine (least_any Y vs ms (kl : Int) (kr : Int) w9 ((unhide HY8).later (unhide HB9))).mono ?_
    rintro e w10 ⟨a', ea', rfl, hres2, hb10⟩
    obtain ⟨q1, q2⟩ := hres2.uniq (unhide HR1)
    subst q1
    subst q2
    have HB10 := hide (bel_trans (unhide HB9) hb10)
    clear hres2 hb10 HB9 HR1
    go_wp2_with fail
    refine (nth_any X vs ms (kl : Int) (kr : Int) (kk : Int) w10 ((unhide HX8).later (unhide HB10))).mono ?_
    rintro e w11 ⟨u, eu, rfl, hres3, hb11⟩
    have HR3 := hide hres3
    have HB11 := hide (bel_trans (unhide HB10) hb11)
    clear hres3 hb11 HB10
    go_wp2_with fail
    refine (nth_any Y vs ms (kl : Int) (kr : Int) (kk : Int) w11 ((unhide HY8).later (unhide HB11))).mono ?_
    rintro e w12 ⟨u', eu', rfl, hres4, hb12⟩
    obtain ⟨q1, q2⟩ := hres4.uniq (unhide HR3)
    subst q1
    subst q2
    have HB12 := hide (bel_trans (unhide HB11) hb12)
    clear hres4 hb12 HB11 HR3
    go_wp2
    go_ret
    exact ⟨rfl, bel_trans (unhide HBW8) (unhide HB12)⟩
end Kp
end Go.Proofs.YtolkjadklbchfaaDoor
