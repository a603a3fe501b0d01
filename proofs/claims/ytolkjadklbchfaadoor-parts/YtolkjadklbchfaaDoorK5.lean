import Derived.Test.YtolkjadklbchfaaDoorK3
import Derived.Test.YtolkjadklbchfaaDoorK1
import Derived.Deep.DeepCutAuto
/- Walks of the keeps: Parts. -/
open Go Go.RowKit
namespace Go.Proofs.YtolkjadklbchfaaDoor
namespace Kp
open Mem Rf Pr

set_option maxHeartbeats 4000000 in
set_option maxRecDepth 20000 in
theorem kparts_any (B : Nat) (p : Option Addr) (n c : Nat) (xs : List Nat) (few l r : Int) (lo hi : Nat) (w : World) (hv : Rd B w (.slice p n c) (U64 xs)) (hB : B ≤ w.heap.size) (hbig : ∀ x ∈ xs, x < 18446744073709551616) (hn : n ≤ 17592186044000)
    (hfew : -9223372036854775808 ≤ few ∧ few ≤ 9223372036854775807) (hl : -9223372036854775808 ≤ l ∧ l ≤ 9223372036854775807) (hr : -9223372036854775808 ≤ r ∧ r ≤ 9223372036854775807) (hlo : lo < 18446744073709551616) (hhi : hi < 18446744073709551616) (hT : Bru w) :
    Calls Tryd.prog 4 #[.slice p n c, .int .i64 few, .int .i64 l, .int .i64 r, .int .u64 lo, .int .u64 hi] w fun e w' => e = .returned (.bool true) ∧ Below w.heap.size w w' := by
  have HRW := hide (fun (w' : World) (hb : Below w.heap.size w w') => krow_any B p n c xs none 0 0 [] few w' (hv.below (hb.mono hB)) (Rd.nil _ _) (Nat.le_trans hB hb.size) hbig hn hfew)
  obtain ⟨kk, hkk, hp⟩ := kpick_fix few 4 (by omega) (by omega) hfew
  have HP := hide hp
  have HT := hide hT
  clear hv hbig hp hT
  go_enter Tryd.func4, Tryd.ntmps4
  go_wp2_with fail
  refine (unhide HRW w (Below.refl _ _)).mono ?_
  rintro e w1 ⟨V, M, vs, ms, rfl, hoV, hoM, hap, hmd, hb1⟩
  obtain ⟨pV, cV, rfl, _⟩ := own_slice hoV
  obtain ⟨pM, cM, rfl, _⟩ := own_slice hoM
  clear HRW
  have hlen := hmd.len
  have hvl : vs.length ≤ 200 := by omega
  have hroom : vs.length ≤ 10000000000000 := by omega
  clear hlen
  have HV := hide hoV
  have HM := hide hoM
  have HX := hide (And.intro hap hb1)
  have HMD := hide hmd
  clear hoV hoM hap hb1 hmd
  have hbs : w.heap.size ≤ w1.heap.size := (unhide HX).2.size
  have HFA : Hid (vs.length < 200 → Fits (vs ++ [9]) ms) := fun h => by
    have hm := (unhide HMD).val (x := 9) (by omega)
    rw [← (unhide HMD).len] at hm
    exact hm.fits (by omega)
  have HFB : Hid (vs.length = 200 → Fits (vs ++ [9]).tail ms) := fun h => by
    have hm := unhide HMD
    rw [← hm.len, h] at hm
    exact ⟨fun x hx => (hm.val (x := 9) (by omega)).big x (List.mem_of_mem_tail hx), by simp [h]; exact hm.mlt, by simp [h], by simp [h]; exact hm.mle, hm.rises⟩
  go_upto_if 41 with (at_builtin; go_loud (refine wpList_app _ rfl (.tmp 34) (.tmp 35) 22 rfl w.heap.size 27 (.int .u64 0) 8 Tryd.underlying22 Ty.u64 rfl (.slice pV vs.length cV) _ _ rfl (((unhide HV).alloc _).alloc _) _ _ rfl ⟨_, rd_one2 w1 _ (.int .u64 9) 27⟩ (one_int _ _) (room1 hroom) (room8b hroom) (by simp; omega) ?_; intro v1 w2 hown1 hg1 hb1; obtain ⟨pv1, cv1, rfl, _⟩ := own_slice hown1; obtain ⟨k0, kf, hr1⟩ := Vr.put (x := 9) (unhide HV) (unhide HM) (unhide HX).1 (unhide HX).2 hown1 hg1 hb1; simp only [List.length_cons, List.length_nil, Nat.zero_add] at hr1; have c0 := hr1.c0; have c1 := hr1.c1; have cf := hr1.fz; have HR1 := hide hr1; clear hown1 hg1 hb1 hr1))
  go_cut [] (fun wx => Ready w1.heap.size w wx)
  case first =>
    by_cases h2 : vs.length < 200
    · have h2i : ¬ (200 : Int) < (vs.length : Int) + 1 := by omega
      go_wp2_with fail
      go_meet
      refine ⟨pv1, pM, cv1, cM, vs ++ [9], ms, ?_, unhide HFA h2, by simp⟩
      have e : (vs ++ [9]).length = vs.length + 1 := by simp
      rw [e]
      exact unhide HR1
    · have h2i : (200 : Int) < (vs.length : Int) + 1 := by omega
      have h2e : vs.length = 200 := by omega
      have HFC := hide (unhide HFB h2e)
      obtain ⟨b, o, hpe, hq1, hq2⟩ := (unhide HR1).rV.at 0 _ (U64_at (vs ++ [9]) 0 (by simp))
      subst hpe
      clear hq1 hq2
      have hr2 := (unhide HR1).cut (by simp)
      have HR2 := hide hr2
      clear hr2 h2e
      go_wp2_with fail
      go_meet
      refine ⟨some ⟨b, o + 1, none⟩, pM, cv1 - 1, cM, (vs ++ [9]).tail, ms, ?_, unhide HFC, by simp; omega⟩
      have e : (vs ++ [9]).tail.length = vs.length := by simp
      rw [e]
      exact unhide HR2
  case rest =>
    obtain ⟨pU, qU, cU, dU, us, ns, hr2, hfit, hn1⟩ := hcut
    clear HFA HFB HR1 HV HM HX HMD c0 c1 cf hroom hvl k0 kf
    have hn2 := hfit.len
    have HL : Hid (us.length = us.length) := rfl
    have c0 := hr2.c0
    have c1 := hr2.c1
    have HR2 := hide hr2
    have HF := hide hfit
    clear hr2 hfit
    generalize hnn : us.length = nn at *
    have HNN := hide hnn
    clear hnn HL
    obtain ⟨kl, hkl, hpl⟩ := kpick_fix l nn hn1 (by omega) hl
    obtain ⟨kr, hkr, hpr⟩ := kpick_fix r (nn - kl) (by omega) (by omega) hr
    rw [show ((nn - kl : Nat) : Int) = (nn : Int) - (kl : Int) from by omega] at hpr
    have HPL := hide hpl
    have HPR := hide hpr
    clear hpl hpr
    go_wp2_with (first
      | (go_at_call 12; go_loud (refine (kbuilt_any _ _ _ _ us _ _ _ ns _ (unhide HR2).rV (unhide HR2).rM (Nat.le_refl _) (unhide HF) ((unhide HT).below (unhide HR2).bel (unhide HT).1)).mono ?_; rintro e w4 ⟨X, rfl, hask, hb4⟩; have hr4 := (unhide HR2).later hb4; have e0 := hr4.c0; have HR4 := hide hr4; have HASK := hide hask; clear hask hb4 hr4)))
    refine at_same (unhide HPL _) ?_
    go_wp2_with fail
    refine at_same (unhide HPR _) ?_
    go_wp2_with fail
    refine at_same (unhide HP _) ?_
    go_upto_if 69 with fail
    have hm1 : lo % 60 < 18446744073709551616 := by omega
    have hm2 : hi % 60 < 18446744073709551616 := by omega
    go_cut [4, 5] (fun a b wx => ∃ u v : Nat, a = .int .u64 (u : Nat) ∧ b = .int .u64 (v : Nat) ∧ u < 18446744073709551616 ∧ v < 18446744073709551616 ∧ w4 = wx)
    case first =>
      by_cases hk2 : kk < 2
      · go_wp2_with fail
        go_meet
        exact ⟨lo % 60, hi % 60, by simp, by simp, hm1, hm2, rfl⟩
      · go_wp2_with fail
        go_meet
        exact ⟨lo, hi, rfl, rfl, hlo, hhi, rfl⟩
    case rest =>
      obtain ⟨u, v, rfl, rfl, hu, hv, rfl⟩ := hcut
      clear hm1 hm2 hlo hhi hkk
      go_upto_if 76 with fail
      go_cut [3, 4, 5] (fun z a b wx => ∃ rr s t : Nat, z = .int .i64 (rr : Nat) ∧ a = .int .u64 (s : Nat) ∧ b = .int .u64 (t : Nat) ∧ kl < rr ∧ rr ≤ nn ∧ s < 18446744073709551616 ∧ t < 18446744073709551616 ∧ s ≤ t ∧ w4 = wx)
      case first =>
        by_cases hlh : v < u
        · go_wp2_with fail
          go_meet
          exact ⟨kl + 1 + kr, v, u, by simp, rfl, rfl, by omega, by omega, hv, hu, by omega, rfl⟩
        · go_wp2_with fail
          go_meet
          exact ⟨kl + 1 + kr, u, v, by simp, rfl, rfl, by omega, by omega, hu, hv, by omega, rfl⟩
      case rest =>
        obtain ⟨rr, s, t, rfl, rfl, rfl, hr1, hr2, hs, ht, hst, rfl⟩ := hcut
        clear hu hv hkr
        have HIP : Hid (Sp.IsPart us (kl : Int) (rr : Int)) := ⟨by omega, by rw [unhide HNN]; omega, by omega⟩
        have HLR : Hid (Sp.LeastRes us (kl : Int) (rr : Int) (Sp.leastTo us kl (rr - 1 - kl) : Nat) 0) := Or.inr ⟨unhide HIP, by rw [Int.toNat_natCast, Int.toNat_natCast], rfl⟩
        have ha1 := (Sp.leastTo_in us kl (rr - 1 - kl)).1
        have ha2 : Sp.leastTo us kl (rr - 1 - kl) < rr := by have := (Sp.leastTo_in us kl (rr - 1 - kl)).2; omega
        have HMIN : Hid (∀ j, kl ≤ j → j < rr → us[Sp.leastTo us kl (rr - 1 - kl)]?.getD 0 ≤ us[j]?.getD 0 ∧ (j < Sp.leastTo us kl (rr - 1 - kl) → us[Sp.leastTo us kl (rr - 1 - kl)]?.getD 0 < us[j]?.getD 0)) := fun j h1 h2 => Sp.leastTo_spec us kl (rr - 1 - kl) j h1 (by omega)
        generalize Sp.leastTo us kl (rr - 1 - kl) = m0 at *
        go_wp2_with fail
        refine (least_any X us ns (kl : Int) (rr : Int) w4 (unhide HASK)).mono ?_
        rintro e w5 ⟨ra, rf, rfl, hres, hb5⟩
        obtain ⟨e1, e2⟩ := hres.uniq (unhide HLR)
        subst e1
        subst e2
        have HR5 := hide ((unhide HR4).later hb5)
        have HA5 := hide ((unhide HASK).later hb5)
        have HCT : Hid (Sp.CountRes us (kl : Int) (rr : Int) s t ((Sp.sl us kl rr).countP (fun v => decide (s ≤ v) && decide (v ≤ t)) : Nat) 0) := Or.inr (Or.inr ⟨unhide HIP, hst, by rw [Int.toNat_natCast, Int.toNat_natCast], rfl⟩)
        clear hres hb5 HR4 HASK HLR
        have hd1 : decide (m0 < kl) = false := decide_eq_false (by omega)
        have hd2 : decide (rr ≤ m0) = false := decide_eq_false (by omega)
        have hd3 : decide ((m0 : Int) < (kl : Int)) = false := decide_eq_false (by omega)
        have hd4 : decide ((rr : Int) ≤ (m0 : Int)) = false := decide_eq_false (by omega)
        go_wp2
        clear hd1 hd2 hd3 hd4
        go_loopw [19, 20] (fun bb ii wr => ∃ k : Nat, kl ≤ k ∧ k ≤ rr ∧ ii = .int .i64 (k : Nat) ∧ bb = .int .i64 ((Sp.sl us kl k).countP (fun v => decide (s ≤ v) && decide (v ≤ t)) : Nat) ∧ Below w5.heap.size w5 wr) (fun _ ii _ => rr - (intOf ii).toNat)
        case atStart => exact ⟨kl, Nat.le_refl _, by omega, rfl, by rw [Sp.sl_nil]; rfl, Below.refl _ _⟩
        case round =>
          obtain ⟨k, hk1, hk2, rfl, rfl, hbw⟩ := hrel
          by_cases hlt : k < rr
          · have hkn : k < us.length := by rw [unhide HNN]; omega
            have hmn : m0 < us.length := by rw [unhide HNN]; omega
            have hrv := (unhide HR5).later hbw
            obtain ⟨b, o, hp1, _, q1⟩ := hrv.rV.at k _ (U64_at us k hkn)
            subst hp1
            obtain ⟨b2, o2, hp2, _, q2⟩ := hrv.rV.at m0 _ (U64_at us m0 hmn)
            simp only [Option.some.injEq, Addr.mk.injEq] at hp2
            obtain ⟨rfl, rfl, _⟩ := hp2
            have v0 := hrv.c0
            obtain ⟨g1, g2⟩ := unhide HMIN k hk1 hlt
            rw [show us[k]?.getD 0 = us[k] from by simp [hkn], show us[m0]?.getD 0 = us[m0] from by simp [hmn]] at g1 g2
            have HCN := hide (Sp.sl_cnt_snoc us (fun v => decide (s ≤ v) && decide (v ≤ t)) kl k hk1 hkn)
            have HBW := hide hbw
            clear hrv hbw
            generalize us[k] = x at *
            generalize us[m0] = y at *
            have hcl : (Sp.sl us kl k).countP (fun v => decide (s ≤ v) && decide (v ≤ t)) ≤ 200 := Nat.le_trans List.countP_le_length (by rw [Sp.sl_len us (by omega)]; omega)
            generalize hcc : (Sp.sl us kl k).countP (fun v => decide (s ≤ v) && decide (v ≤ t)) = cc at *
            clear hcc hkn hmn
            have hyx : y ≤ x := by omega
            have hkn3 : k < nn := by omega
            have hmn3 : m0 < nn := by omega
            have hxy : (x = y ∧ ¬ k < m0) ∨ ¬ x = y := by
              by_cases h : x = y
              · exact .inl ⟨h, fun h2 => by have := g2 h2; omega⟩
              · exact .inr h
            have hin : x < s ∨ (s ≤ x ∧ x ≤ t) ∨ (s ≤ x ∧ t < x) := by omega
            clear g1 g2
            go_upto_region 23 with fail
            go_cut [132] (fun cb wx => cb = .bool false ∧ ∃ mq, wx = wr.drewN mq)
            case first =>
              clear hin HCN
              rcases hxy with ⟨hxe, hkm⟩ | hne
              · have hnd : decide ((x : Int) < (y : Int)) = false := decide_eq_false (by omega)
                have hxb : ((x : Int) == (y : Int)) = true := by rw [beq_iff_eq]; omega
                have hkd : decide ((k : Int) < (m0 : Int)) = false := decide_eq_false (by omega)
                have hnd2 : decide (x < y) = false := decide_eq_false (by omega)
                have hxb2 : (x == y) = true := by rw [beq_iff_eq]; omega
                have hkd2 : decide (k < m0) = false := decide_eq_false (by omega)
                clear hxe hkm hyx
                go_quiet (fail)
                go_wp2
                go_meet
                exact ⟨rfl, _, rfl⟩
              · have hnd : decide ((x : Int) < (y : Int)) = false := decide_eq_false (by omega)
                have hxb : ((x : Int) == (y : Int)) = false := by rw [beq_eq_false_iff_ne]; omega
                have hnd2 : decide (x < y) = false := decide_eq_false (by omega)
                have hxb2 : (x == y) = false := by rw [beq_eq_false_iff_ne]; omega
                clear hne hyx
                go_quiet (fail)
                go_wp2
                go_meet
                exact ⟨rfl, _, rfl⟩
            case rest =>
              obtain ⟨rfl, mq, rfl⟩ := hcut
              clear hxy q2
              rcases hin with h1 | ⟨h1, h2⟩ | ⟨h1, h2⟩
              · have HCE : Hid ((Sp.sl us kl (k + 1)).countP (fun v => decide (s ≤ v) && decide (v ≤ t)) = cc) := by rw [Hid, HCN.out, if_neg (by simp; omega)]; rfl
                go_wp2
                go_roundw
                case rel => first | exact ⟨k + 1, by omega, by omega, by go_num, by rw [unhide HCE], bel_trans (unhide HBW) (drewN_bel _ _)⟩ | ((repeat apply Exists.intro); refine ⟨?_, rfl⟩; exact ⟨k + 1, by omega, by omega, by go_num, by rw [unhide HCE], bel_trans (unhide HBW) (drewN_bel _ _)⟩)
                case measure => simp [intOf]; omega
              · have HCE : Hid ((Sp.sl us kl (k + 1)).countP (fun v => decide (s ≤ v) && decide (v ≤ t)) = cc + 1) := by rw [Hid, HCN.out, if_pos (by simp; omega)]
                go_wp2
                go_roundw
                case rel => first | exact ⟨k + 1, by omega, by omega, by go_num, by rw [unhide HCE]; go_num, bel_trans (unhide HBW) (drewN_bel _ _)⟩ | ((repeat apply Exists.intro); refine ⟨?_, rfl⟩; exact ⟨k + 1, by omega, by omega, by go_num, by rw [unhide HCE]; go_num, bel_trans (unhide HBW) (drewN_bel _ _)⟩)
                case measure => simp [intOf]; omega
              · have HCE : Hid ((Sp.sl us kl (k + 1)).countP (fun v => decide (s ≤ v) && decide (v ≤ t)) = cc) := by rw [Hid, HCN.out, if_neg (by simp; omega)]; rfl
                go_wp2
                go_roundw
                case rel => first | exact ⟨k + 1, by omega, by omega, by go_num, by rw [unhide HCE], bel_trans (unhide HBW) (drewN_bel _ _)⟩ | ((repeat apply Exists.intro); refine ⟨?_, rfl⟩; exact ⟨k + 1, by omega, by omega, by go_num, by rw [unhide HCE], bel_trans (unhide HBW) (drewN_bel _ _)⟩)
                case measure => simp [intOf]; omega
          · have he : rr = k := by omega
            subst he
            have HAK := hide ((unhide HA5).later hbw)
            have HRK := hide ((unhide HR5).later hbw)
            clear hbw hlt hk1 hk2 HA5 HR5 HMIN
            generalize (Sp.sl us kl rr).countP (fun v => decide (s ≤ v) && decide (v ≤ t)) = cc at *
            go_wp2_with fail
            refine (count_any X us ns (kl : Int) (rr : Int) s t wr (unhide HAK) hs ht).mono ?_
            rintro e w6 ⟨ra, rf, rfl, hres, hb6⟩
            obtain ⟨e1, e2⟩ := hres.uniq (unhide HCT)
            subst e1
            subst e2
            have HA6 := hide ((unhide HAK).later hb6)
            have HR6 := hide ((unhide HRK).later hb6)
            clear hres hb6 HAK HRK HCT
            go_wp2
            go_loopw [23, 24] (fun la jj wq => ∃ (j v : Nat), j ≤ rr - kl ∧ jj = .int .i64 (j : Nat) ∧ la = .int .u64 (v : Nat) ∧ v < 18446744073709551616 ∧ (∀ q u, j ≤ q → Sp.IsNth (Sp.sl us kl rr) q u → v ≤ u) ∧ Below w6.heap.size w6 wq) (fun _ jj _ => rr - kl - (intOf jj).toNat)
            case atStart => exact ⟨0, 0, Nat.zero_le _, rfl, rfl, by omega, fun _ _ _ _ => Nat.zero_le _, Below.refl _ _⟩
            case round =>
              obtain ⟨j, lv, hj, rfl, rfl, hlv, hmin, hbq⟩ := hrel
              by_cases hlt2 : j < rr - kl
              · have hlti : (j : Int) < (rr : Int) - (kl : Int) := by omega
                have hplen : (Sp.sl us kl rr).length = rr - kl := Sp.sl_len us (by rw [unhide HNN]; omega)
                have hbig : ∀ x ∈ Sp.sl us kl rr, x < 18446744073709551616 := fun x hx => (unhide HF).big x (Sp.sl_mem hx)
                obtain ⟨nv, hnv⟩ := Sp.isNth_exists (P := Sp.sl us kl rr) (k := j) (W := 64) hbig (by omega)
                have hnb := hbig nv hnv.mem
                have hlast : ¬ (nv : Int) < (lv : Int) := by have := hmin j nv (Nat.le_refl _) hnv; omega
                have HNR : Hid (Sp.NthRes us (kl : Int) (rr : Int) (j : Int) (nv : Int) 0) := Or.inr (Or.inr ⟨nv, unhide HIP, ⟨by omega, by omega⟩, by rw [Int.toNat_natCast, Int.toNat_natCast, Int.toNat_natCast]; exact hnv, rfl, rfl⟩)
                have HNV := hide hnv
                have HAQ := hide ((unhide HA6).later hbq)
                have HRQ := hide ((unhide HR6).later hbq)
                have HBQ := hide hbq
                clear hplen hbig hnv hmin hbq
                go_wp2_with fail
                refine (nth_any X us ns (kl : Int) (rr : Int) (j : Int) _ (unhide HAQ)).mono ?_
                rintro e w7 ⟨ra, rf, rfl, hres, hb7⟩
                obtain ⟨e1, e2⟩ := hres.uniq (unhide HNR)
                subst e1
                subst e2
                have HR7 := hide ((unhide HRQ).later hb7)
                have HB7 := hide (bel_trans (unhide HBQ) hb7)
                clear hres hb7 HAQ HRQ HBQ HNR
                go_wp2
                go_loopw [27, 28, 29] (fun le mo ii wz => ∃ i : Nat, kl ≤ i ∧ i ≤ rr ∧ ii = .int .i64 (i : Nat) ∧ le = .int .i64 ((Sp.sl us kl i).countP (fun y => decide (y < nv)) : Nat) ∧ mo = .int .i64 ((Sp.sl us kl i).countP (fun y => decide (y ≤ nv)) : Nat) ∧ Below w7.heap.size w7 wz) (fun _ _ ii _ => rr - (intOf ii).toNat)
                case atStart => exact ⟨kl, Nat.le_refl _, by omega, rfl, by rw [Sp.sl_nil]; rfl, by rw [Sp.sl_nil]; rfl, Below.refl _ _⟩
                case round =>
                  obtain ⟨i, hi1, hi2, rfl, rfl, rfl, hbz⟩ := hrel
                  by_cases hlt3 : i < rr
                  · have hkn : i < us.length := by rw [unhide HNN]; omega
                    have hrv := (unhide HR7).later hbz
                    obtain ⟨b, o, hp1, _, q1⟩ := hrv.rV.at i _ (U64_at us i hkn)
                    subst hp1
                    have v0 := hrv.c0
                    have HC1 := hide (Sp.sl_cnt_snoc us (fun y => decide (y < nv)) kl i hi1 hkn)
                    have HC2 := hide (Sp.sl_cnt_snoc us (fun y => decide (y ≤ nv)) kl i hi1 hkn)
                    have hc1 : (Sp.sl us kl i).countP (fun y => decide (y < nv)) ≤ 200 := Nat.le_trans List.countP_le_length (by rw [Sp.sl_len us (by omega)]; omega)
                    have hc2 : (Sp.sl us kl i).countP (fun y => decide (y ≤ nv)) ≤ 200 := Nat.le_trans List.countP_le_length (by rw [Sp.sl_len us (by omega)]; omega)
                    have HBZ := hide hbz
                    clear hrv hbz
                    generalize us[i] = x at *
                    generalize hg1 : (Sp.sl us kl i).countP (fun y => decide (y < nv)) = c1 at *
                    generalize hg2 : (Sp.sl us kl i).countP (fun y => decide (y ≤ nv)) = c2 at *
                    clear hg1 hg2 hkn
                    have h3 : x < nv ∨ x = nv ∨ nv < x := by omega
                    rcases h3 with h1 | h1 | h1
                    · have E1 : Hid ((Sp.sl us kl (i + 1)).countP (fun y => decide (y < nv)) = c1 + 1) := by rw [Hid, HC1.out, if_pos (by simp; omega)]
                      have E2 : Hid ((Sp.sl us kl (i + 1)).countP (fun y => decide (y ≤ nv)) = c2 + 1) := by rw [Hid, HC2.out, if_pos (by simp; omega)]
                      have h1i : (x : Int) < (nv : Int) := by omega
                      have h1j : (x : Int) ≤ (nv : Int) := by omega
                      go_wp2
                      go_roundw
                      case rel => first | exact ⟨i + 1, by omega, by omega, by go_num, by rw [unhide E1]; go_num, by rw [unhide E2]; go_num, unhide HBZ⟩ | ((repeat apply Exists.intro); refine ⟨?_, rfl⟩; exact ⟨i + 1, by omega, by omega, by go_num, by rw [unhide E1]; go_num, by rw [unhide E2]; go_num, unhide HBZ⟩)
                      case measure => simp [intOf]; omega
                    · have E1 : Hid ((Sp.sl us kl (i + 1)).countP (fun y => decide (y < nv)) = c1) := by rw [Hid, HC1.out, if_neg (by simp; omega)]; rfl
                      have E2 : Hid ((Sp.sl us kl (i + 1)).countP (fun y => decide (y ≤ nv)) = c2 + 1) := by rw [Hid, HC2.out, if_pos (by simp; omega)]
                      have h1i : ¬ (x : Int) < (nv : Int) := by omega
                      have h1j : (x : Int) ≤ (nv : Int) := by omega
                      clear h1
                      go_wp2
                      go_roundw
                      case rel => first | exact ⟨i + 1, by omega, by omega, by go_num, by rw [unhide E1], by rw [unhide E2]; go_num, unhide HBZ⟩ | ((repeat apply Exists.intro); refine ⟨?_, rfl⟩; exact ⟨i + 1, by omega, by omega, by go_num, by rw [unhide E1], by rw [unhide E2]; go_num, unhide HBZ⟩)
                      case measure => simp [intOf]; omega
                    · have E1 : Hid ((Sp.sl us kl (i + 1)).countP (fun y => decide (y < nv)) = c1) := by rw [Hid, HC1.out, if_neg (by simp; omega)]; rfl
                      have E2 : Hid ((Sp.sl us kl (i + 1)).countP (fun y => decide (y ≤ nv)) = c2) := by rw [Hid, HC2.out, if_neg (by simp; omega)]; rfl
                      have h1i : ¬ (x : Int) < (nv : Int) := by omega
                      have h1j : ¬ (x : Int) ≤ (nv : Int) := by omega
                      clear h1
                      go_wp2
                      go_roundw
                      case rel => first | exact ⟨i + 1, by omega, by omega, by go_num, by rw [unhide E1], by rw [unhide E2], unhide HBZ⟩ | ((repeat apply Exists.intro); refine ⟨?_, rfl⟩; exact ⟨i + 1, by omega, by omega, by go_num, by rw [unhide E1], by rw [unhide E2], unhide HBZ⟩)
                      case measure => simp [intOf]; omega
                  · have he : rr = i := by omega
                    subst he
                    have n1 := (unhide HNV).1
                    have n2 := (unhide HNV).2
                    have HBZ := hide hbz
                    clear hbz hlt3 hi1 hi2
                    generalize (Sp.sl us kl rr).countP (fun y => decide (y < nv)) = c1 at *
                    generalize (Sp.sl us kl rr).countP (fun y => decide (y ≤ nv)) = c2 at *
                    go_wp2
                    go_roundw
                    case rel => first | exact ⟨j + 1, nv, by omega, by go_num, rfl, hnb, fun q u hq hu => (unhide HNV).mono hu (by omega), bel_trans (unhide HB7) (unhide HBZ)⟩ | ((repeat apply Exists.intro); refine ⟨?_, rfl⟩; exact ⟨j + 1, nv, by omega, by go_num, rfl, hnb, fun q u hq hu => (unhide HNV).mono hu (by omega), bel_trans (unhide HB7) (unhide HBZ)⟩)
                    case measure => simp [intOf]; omega
              · have hlti : ¬ (j : Int) < (rr : Int) - (kl : Int) := by omega
                have HEND := hide (((unhide HR6).later hbq).bel)
                clear hmin hbq
                go_wp2
                go_ret
                exact ⟨rfl, unhide HEND⟩
end Kp
end Go.Proofs.YtolkjadklbchfaaDoor
