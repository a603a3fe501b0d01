import Derived.Test.YtolkjadklbchfaaDoorK9
import Derived.Test.YtolkjadklbchfaaDoorK8
import Derived.Test.YtolkjadklbchfaaDoorF1
import Derived.Deep.DeepCutAuto
import Derived.BigQuiet
import Derived.Deep.RegionHeld3
/- Walks of the keeps: Forged. -/
open Go Go.RowKit
namespace Go.Proofs.YtolkjadklbchfaaDoor
namespace Kp
open Mem Rf Pr Ld

theorem set_lt2 {d : List Nat} (h : ∀ x ∈ d, x < 256) (i v : Nat) (hv : v < 256) : ∀ x ∈ d.set i v, x < 256 := by
  intro x hx
  rcases List.mem_or_eq_of_mem_set hx with h1 | h1
  · exact h x h1
  · rw [h1]; exact hv
theorem flip_at (d : List Nat) (F j : Nat) : flip d (8 * F + j) = d.set (F + j / 8) (d[F + j / 8]?.getD 0 ^^^ 2 ^ (j % 8)) := by
  unfold flip
  rw [show (8 * F + j) / 8 = F + j / 8 from by omega, show (8 * F + j) % 8 = j % 8 from by omega]
theorem tdiv3 {z : Int} (h : -9223372036854775808 ≤ z ∧ z ≤ 9223372036854775807) : -9223372036854775808 ≤ z.tdiv 3 ∧ z.tdiv 3 ≤ 9223372036854775807 := by
  by_cases h0 : 0 ≤ z
  · rw [Int.tdiv_eq_ediv_of_nonneg h0]
    omega
  · rw [show z = -(-z) from by omega, Int.neg_tdiv, Int.tdiv_eq_ediv_of_nonneg (by omega)]
    omega

set_option maxHeartbeats 8000000 in
set_option maxRecDepth 100000 in
theorem kforged_any (B : Nat) (p : Option Addr) (n c : Nat) (xs : List Nat) (q : Option Addr) (m d : Nat) (ys : List Int) (few : Int) (pa : Option Addr) (na ca : Nat) (zs : List Int) (hd : Bool) (pw : Int) (w : World) (hv : Rd B w (.slice p n c) (U64 xs)) (hy : Rd B w (.slice q m d) (I64 ys)) (hz : Rd B w (.slice pa na ca) (I64 zs)) (hB : B ≤ w.heap.size) (hbig : ∀ x ∈ xs, x < 18446744073709551616) (hn : n ≤ 17592186044000)
    (hfew : -9223372036854775808 ≤ few ∧ few ≤ 9223372036854775807) (hzb : ∀ z ∈ zs, -9223372036854775808 ≤ z ∧ z ≤ 9223372036854775807) (_hna : na ≤ 17592186044000) (hpw : -9223372036854775808 ≤ pw ∧ pw ≤ 9223372036854775807) (hT : Tab w) (hU : Bru w) :
    Calls Tryd.prog 8 #[.slice p n c, .slice q m d, .int .i64 few, .slice pa na ca, .bool hd, .int .i64 pw] w fun e w' => e = .returned (.bool true) ∧ Below w.heap.size w w' := by
  have hzl := hz.len.1
  rw [I64_len] at hzl
  have HEN := hide (kencoded_any B p n c xs q m d ys few w hv hy hB hbig hn hfew hT hU)
  have HT := hide hT
  have HU := hide hU
  have HZ := hide (And.intro hz (And.intro hzb hzl))
  obtain ⟨kw, hkw, hpk⟩ := kpick_fix pw 66 (by omega) (by omega) hpw
  have HPK := hide hpk
  clear hv hy hbig hT hU hfew hz hzb hzl hpk hpw
  go_enter Tryd.func8, Tryd.ntmps8
  go_wp2_with fail
  refine (unhide HEN).mono ?_
  rintro e w1 ⟨X, pV, cV, pM, cM, pb, cb, vs, ms, rfl, hask, rV, rM, oB, hb1⟩
  have hfit := hask.fit
  have hn2 := hfit.len
  have hmn := hfit.mlen
  have hel := enc_len_small hfit
  have hbl := bel_trans hb1 (alloc_bel w1 (.cells #[.slice pV vs.length cV, .slice pM ms.length cM] 25))
  have k0 := box5 w1 #[.slice pV vs.length cV, .slice pM ms.length cM] 25 0 _ rfl
  have k1 := box5 w1 #[.slice pV vs.length cV, .slice pM ms.length cM] 25 1 _ rfl
  have HSZ := hide (hask.later (alloc_bel w1 (.cells #[.slice pV vs.length cV, .slice pM ms.length cM] 25))).size
  have HF := hide hfit
  have HOB := hide (oB.alloc (.cells #[.slice pV vs.length cV, .slice pM ms.length cM] 25))
  have HBL := hide hbl
  have HLT := hide (enc_lt vs ms hfit)
  have HEH := hide (enc_head hfit)
  have hW := Sp.widthOf_le vs hfit.big
  clear hask rV rM oB hb1 hbl hfit HEN
  generalize hEE : Sp.encode vs ms = E at *
  have HEE := hide hEE
  clear hEE
  obtain ⟨he1, he2⟩ := hel
  generalize hnn : vs.length = nn at *
  generalize hmm : ms.length = mm at *
  generalize hww : Sp.widthOf vs = W at *
  have HNN := hide (And.intro hnn (And.intro hmm hww))
  clear hnn hmm hww
  obtain ⟨gb, cb', hform, hgc, hgb, hgl, _⟩ := own_form (unhide HOB) (by omega)
  simp only [Value.slice.injEq] at hform
  obtain ⟨rfl, _, rfl⟩ := hform
  go_wp2_with fail
  generalize hwa : w1.alloc (.cells #[.slice pV nn cV, .slice pM mm cM] 25) = wa at *
  clear hwa
  refine (unhide HSZ).mono ?_
  rintro e w2 ⟨rfl, hb2⟩
  have HO2 := hide (own_later (unhide HOB) hb2)
  have HB2 := hide (bel_trans (unhide HBL) hb2)
  have f0 := later_cell k0 hb2
  have f1 := later_cell k1 hb2
  have hc5 := ((unhide HO2).cellAt 5 (by omega)).trans (By_at _ 5 (by omega))
  have hz5 := (unhide HO2).frozenAt 5
  have hw5 : E[5]'(by omega) = W := by
    have := (unhide HEH).2.1
    unfold Sp.hW at this
    rw [List.getElem?_eq_getElem (by omega)] at this
    exact this
  rw [hw5] at hc5
  have HW5 := hide hw5
  clear hb2 HSZ HOB HBL k0 k1 hw5
  go_upto_if 65 with fail
  go_cut [] (fun wx => ∃ K : Nat, K < 256 ∧ wx.ownsRow w.heap.size 5 1 (.slice (some ⟨gb, 0, none⟩) E.length cb) E.length (By (E.set 5 K)) ∧ Below w.heap.size w wx)
  case first =>
    as_aux_lemma =>
      cases hd with
      | false =>
        go_wp2_with fail
        go_meet
        refine ⟨W, by omega, ?_, unhide HB2⟩
        rw [show E.set 5 W = E from by rw [← unhide HW5]; exact List.set_getElem_self _]
        exact unhide HO2
      | true =>
        go_wp2_with fail
        refine at_same (unhide HPK _) ?_
        go_wp2_with fail
        go_meet
        have hs := (unhide HO2).stored 5 (.int .u8 ((kw : Nat) : Int))
        rw [← By_set] at hs
        exact ⟨kw, by omega, hs.1, (unhide HB2).setCell hgb _⟩
  case rest =>
    obtain ⟨K, hK, ho3, hb3⟩ := hcut
    have HO3 := hide ho3
    have HB3 := hide hb3
    clear ho3 hb3 hc5 hz5 f0 f1 HO2 HB2 HPK
    go_upto_region 11 with fail
    rename_i KK hKK
    have HKK := hide hKK
    clear hKK
    go_wp2_with fail
    refine unhide HKK _ _ ?_
    refine wp_seq_k ?_
    intro K2 hK2
    clear HKK
    obtain ⟨w3, hw3⟩ : ∃ w3, w3 = wc := ⟨_, rfl⟩
    subst hw3
    go_cut [20, 21] (fun a b wx => a = .int .i64 (Sp.pow nn mm : Nat) ∧ b = .int .i64 (Sp.tw (Sp.pow nn mm) : Nat) ∧ w3 = wx)
    case first =>
      as_aux_lemma =>
        go_wp2
        go_loop [20, 21] (fun a b => ∃ q : Nat, q ≤ nn ∧ a = .int .i64 q ∧ b = .int .i64 (Sp.tw q : Nat) ∧ Sp.powTo nn mm (nn - q) q = Sp.pow nn mm ∧ (q = 0 ∨ (0 < mm ∧ 2 ^ q * mm ≤ nn))) (fun a _ => nn - (intOf a).toNat)
        case atStart => exact ⟨0, Nat.zero_le _, rfl, rfl, rfl, Or.inl rfl⟩
        case round =>
          obtain ⟨q, hq, rfl, rfl, hpow, hinv⟩ := hrel
          have HTW : Hid (Sp.tw q = 2 ^ q) := rfl
          have HTW' : Hid (Sp.tw (q + 1) = 2 ^ (q + 1)) := rfl
          have ht : 2 ^ q ≤ 1000000 := by
            rcases hinv with rfl | ⟨h0, h1⟩
            · decide
            · exact Nat.le_trans (Nat.le_mul_of_pos_right _ h0) (by omega)
          have h2 : 2 * 2 ^ q * mm ≤ 2000000 * 200 := Nat.mul_le_mul (show 2 * 2 ^ q ≤ 2000000 by omega) (by omega)
          by_cases hc : 0 < mm ∧ 2 * 2 ^ q * mm ≤ nn
          · have hf := pow_fits hc
            have HP : Hid (Sp.powTo nn mm (nn - (q + 1)) (q + 1) = Sp.pow nn mm) := by
              rw [← hpow, ← pow_step hc, show nn - (q + 1) + 1 = nn - q from by omega]
              exact rfl
            have HS : Hid (2 ^ (q + 1) = 2 * 2 ^ q) := by rw [Hid, Nat.pow_succ]; omega
            clear hpow hinv
            obtain ⟨hc1, hc2⟩ := hc
            generalize hT : 2 ^ q = t at *
            generalize hT' : 2 ^ (q + 1) = t' at *
            have HTT := hide hT
            have HTT' := hide hT'
            rw [HTW.out]
            clear hT hT'
            have e : (2 * (t : Int) * (mm : Int)) = ((2 * t * mm : Nat) : Int) := by simp
            have i1 : (2 * (t : Int) * (mm : Int)) ≤ (nn : Int) := by rw [e]; omega
            have i2 : (0 : Int) ≤ (2 * (t : Int) * (mm : Int)) := by rw [e]; omega
            clear e
            go_wp2
            go_round
            case rel => exact ⟨q + 1, by omega, by go_num, by rw [HTW'.out, HS.out]; go_num, unhide HP, Or.inr ⟨hc1, by rw [unhide HTT', HS.out]; exact hc2⟩⟩
            case measure => simp [intOf]; omega
          · have HP : Hid (Sp.pow nn mm = q) := by rw [← hpow]; exact pow_stop hc
            clear hpow hinv
            by_cases hc1 : 0 < mm
            · have hc2 : ¬ 2 * 2 ^ q * mm ≤ nn := fun h => hc ⟨hc1, h⟩
              clear hc
              generalize hT : 2 ^ q = t at *
              rw [HTW.out]
              have HTT := hide hT
              clear hT
              have e : (2 * (t : Int) * (mm : Int)) = ((2 * t * mm : Nat) : Int) := by simp
              have i1 : ¬ (2 * (t : Int) * (mm : Int)) ≤ (nn : Int) := by rw [e]; omega
              have i2 : (0 : Int) ≤ (2 * (t : Int) * (mm : Int)) := by rw [e]; omega
              have i3 : (2 * (t : Int) * (mm : Int)) ≤ 400000000 := by rw [e]; omega
              clear e
              go_wp2
              go_meet
              exact ⟨by rw [unhide HP], by rw [unhide HP, HTW.out], rfl⟩
            · have he : mm = 0 := by omega
              subst he
              go_wp2
              go_meet
              exact ⟨by rw [unhide HP], by rw [unhide HP], rfl⟩
    case rest =>
      obtain ⟨rfl, rfl, rfl⟩ := hcut
      have hq10 := pow_small (m := mm) (show nn ≤ 1000 by omega)
      have hszs : sz W nn mm 0 = (W * nn + 7) / 8 ∧ sz W nn mm 1 = (2 * nn + 7) / 8 ∧ sz W nn mm 2 = (mm * Sp.pow nn mm + (mm + nn / Sp.tw (Sp.pow nn mm) + 1) + 7) / 8 := ⟨rfl, rfl, rfl⟩
      have hT0 : 0 < Sp.tw (Sp.pow nn mm) := Nat.pow_pos (by omega)
      have hlen : E.length = 14 + sz W nn mm 0 + sz W nn mm 1 + sz W nn mm 2 + 12 := by
        have hr := (rest_parts (unhide HF)).1
        have hdl : ((Sp.encode vs ms).drop 14).length = fr (Sp.widthOf vs) vs.length ms.length 3 := by rw [enc_drop]; exact hr
        rw [unhide HEE, (unhide HNN).1, (unhide HNN).2.1, (unhide HNN).2.2, List.length_drop] at hdl
        have : fr W nn mm 3 = sz W nn mm 0 + 4 + (sz W nn mm 1 + 4) + (sz W nn mm 2 + 4) := by simp [fr]
        omega
      have hb0 : W * nn ≤ 64 * 200 := Nat.mul_le_mul hW hn2
      have hb1 : mm * Sp.pow nn mm ≤ 200 * 10 := Nat.mul_le_mul (by omega) hq10
      have hb2 : nn / Sp.tw (Sp.pow nn mm) ≤ nn := Nat.div_le_self _ _
      generalize hs0 : sz W nn mm 0 = s0 at *
      generalize hs1 : sz W nn mm 1 = s1 at *
      generalize hs2 : sz W nn mm 2 = s2 at *
      have HSS := hide (And.intro hs0 (And.intro hs1 hs2))
      clear hs0 hs1 hs2
      generalize Sp.tw (Sp.pow nn mm) = T at *
      generalize Sp.pow nn mm = qq at *
      obtain ⟨z0, z1, z2⟩ := hszs
      have i0 : (0 : Int) ≤ (W : Int) * (nn : Int) ∧ (W : Int) * (nn : Int) ≤ 12800 := by
        rw [show (W : Int) * (nn : Int) = ((W * nn : Nat) : Int) from by simp]
        omega
      have i1 : (0 : Int) ≤ (mm : Int) * (qq : Int) ∧ (mm : Int) * (qq : Int) ≤ 2000 := by
        rw [show (mm : Int) * (qq : Int) = ((mm * qq : Nat) : Int) from by simp]
        omega
      have i2 : (0 : Int) ≤ (nn : Int) / (T : Int) ∧ (nn : Int) / (T : Int) ≤ 200 := by
        rw [show (nn : Int) / (T : Int) = ((nn / T : Nat) : Int) from by simp]
        generalize nn / T = r at hb2 ⊢
        omega
      obtain ⟨i0, i0'⟩ := i0
      obtain ⟨i1, i1'⟩ := i1
      obtain ⟨i2, i2'⟩ := i2
      have e0 : ((W : Int) * (nn : Int) + 7) / 8 = (s0 : Int) := by
        rw [z0]
        simp
      have e1 : (2 * (nn : Int) + 7) / 8 = (s1 : Int) := by
        rw [z1]
        simp
      have e2 : ((mm : Int) * (qq : Int) + (mm : Int) + (nn : Int) / (T : Int) + 1 + 7) / 8 = (s2 : Int) := by
        have h : ((mm * qq + (mm + nn / T + 1) + 7 : Nat) : Int) = (mm : Int) * (qq : Int) + (mm : Int) + (nn : Int) / (T : Int) + 1 + 7 := by
          rw [show (mm : Int) * (qq : Int) = ((mm * qq : Nat) : Int) from by simp, show (nn : Int) / (T : Int) = ((nn / T : Nat) : Int) from by simp]
          generalize mm * qq = A
          generalize nn / T = Bq
          omega
        rw [← h, z2]
        generalize mm * qq + (mm + nn / T + 1) + 7 = Y
        omega
      have HZZ := hide (And.intro z0 (And.intro z1 z2))
      clear z0 z1 z2 hb0 hb1 hb2
      have hgl : gb < w3.heap.size := ((unhide HO3).lt gb rfl).2
      have hH : w3.heap.size < (w3.alloc (.cells #[.int .i64 (s0 : Int), .int .i64 (s1 : Int), .int .i64 (s2 : Int)] 3)).heap.size := by simp
      have c0 := box5 w3 #[.int .i64 (s0 : Int), .int .i64 (s1 : Int), .int .i64 (s2 : Int)] 3 0 _ rfl
      have c1 := box5 w3 #[.int .i64 (s0 : Int), .int .i64 (s1 : Int), .int .i64 (s2 : Int)] 3 1 _ rfl
      have c2 := box5 w3 #[.int .i64 (s0 : Int), .int .i64 (s1 : Int), .int .i64 (s2 : Int)] 3 2 _ rfl
      have HO4 := hide ((unhide HO3).alloc (.cells #[.int .i64 (s0 : Int), .int .i64 (s1 : Int), .int .i64 (s2 : Int)] 3))
      have HB4 := hide (bel_trans (unhide HB3) (alloc_bel w3 (.cells #[.int .i64 (s0 : Int), .int .i64 (s1 : Int), .int .i64 (s2 : Int)] 3)))
      have hle : ((E.length : Int) == 14 + (s0 : Int) + (s1 : Int) + (s2 : Int) + 12) = true := by rw [beq_iff_eq]; omega
      have hS0 : s0 ≤ 3000 := by omega
      have hS1 : s1 ≤ 3000 := by omega
      have hS2 : s2 ≤ 3000 := by omega
      have HLN := hide hlen
      clear hlen HO3 HB3
      go_wp2_with fail
      generalize w3.alloc (.cells #[.int .i64 (s0 : Int), .int .i64 (s1 : Int), .int .i64 (s2 : Int)] 3) = w4 at *
      go_cut [122] (fun cb wx => cb = .bool false ∧ ∃ mq, wx = w4.drewN mq)
      case first =>
        as_aux_lemma =>
          go_quiet (fail)
          go_wp2
          go_meet
          exact ⟨by rw [bne, hle]; rfl, _, rfl⟩
      case rest =>
        obtain ⟨rfl, mq, rfl⟩ := hcut
        have HO5 := hide (show (w4.drewN mq).ownsRow w.heap.size 5 1 (.slice (some ⟨gb, 0, none⟩) E.length cb) E.length (By (E.set 5 K)) from unhide HO4)
        have HB5 := hide (bel_trans (unhide HB4) (drewN_bel w4 mq))
        have HCS : Hid (∀ i, i < 3 → (w4.drewN mq).cell? ⟨w3.heap.size, i, none⟩ = some (.int .i64 (sz W nn mm i : Nat))) := by
          obtain ⟨q0, q1, q2⟩ := unhide HSS
          intro i hi
          match i, hi with
          | 0, _ => rw [q0]; exact c0
          | 1, _ => rw [q1]; exact c1
          | 2, _ => rw [q2]; exact c2
        have HFR : Hid (14 + fr W nn mm 3 = E.length) := by
          obtain ⟨q0, q1, q2⟩ := unhide HSS
          have : fr W nn mm 3 = sz W nn mm 0 + 4 + (sz W nn mm 1 + 4) + (sz W nn mm 2 + 4) := by simp [fr]
          rw [Hid, this, q0, q1, q2, unhide HLN]
          omega
        have HF0 : Hid (Fo (E.set 5 K) (E.set 5 K) W nn mm 0) := ⟨rfl, set_lt2 (unhide HLT) 5 K hK, rfl, fun j hj => by omega⟩
        clear c0 c1 c2 HO4 HB4 e0 e1 e2 i0 i0' i1 i1' i2 i2' hle hS0 hS1 hS2 HLN
        have hH5 : w3.heap.size < (w4.drewN mq).heap.size := hH
        clear hH
        generalize hw5 : w4.drewN mq = w5 at *
        clear hw5
        go_upto_region 19 with fail
        rename_i KK hKK
        have HKK := hide hKK
        clear hKK
        go_wp2_with fail
        refine unhide HKK _ _ ?_
        clear HKK
        rename_i KO hKO
        go_cut [23, 24] (fun _ _ wx => ∃ d : List Nat, Fo (E.set 5 K) d W nn mm 3 ∧ wx.ownsRow w.heap.size 5 1 (.slice (some ⟨gb, 0, none⟩) E.length cb) E.length (By d) ∧ w5.grownBy wx (some gb))
        case first =>
          as_aux_lemma =>
            clear hKO
            go_wp2
            go_loopw [23, 24] (fun ff ii wr => ∃ (i : Nat) (d : List Nat), i ≤ 3 ∧ ii = .int .i64 (i : Nat) ∧ ff = .int .i64 (14 + ((fr W nn mm i : Nat) : Int)) ∧ Fo (E.set 5 K) d W nn mm i ∧ wr.ownsRow w.heap.size 5 1 (.slice (some ⟨gb, 0, none⟩) E.length cb) E.length (By d) ∧ w5.grownBy wr (some gb)) (fun _ ii _ => 3 - (intOf ii).toNat)
            case atStart => exact ⟨0, _, by omega, rfl, rfl, unhide HF0, unhide HO5, grown_refl _ _⟩
            case round =>
              obtain ⟨i, dd, hi3, rfl, rfl, hfo, hown, hgr⟩ := hrel
              by_cases hlt : i < 3
              · have hfi : 14 + fr W nn mm i + sz W nn mm i + 4 ≤ E.length := by
                  have h1 := fr_mono W nn mm (show i + 1 ≤ 3 by omega)
                  have h2 : fr W nn mm (i + 1) = fr W nn mm i + (sz W nn mm i + 4) := rfl
                  have h3 := unhide HFR
                  omega
                have hci := unhide HCS i hlt
                have HFS : Hid (fr W nn mm (i + 1) = fr W nn mm i + (sz W nn mm i + 4)) := rfl
                generalize hsi : sz W nn mm i = si at *
                generalize hFi : fr W nn mm i = Fi at *
                have HSI := hide (And.intro hsi hFi)
                have HI0 := hide (And.intro hfo (And.intro hown hgr))
                clear hsi hFi hfo hown hgr HF0 HO5
                have hdec : decide ((i : Int) < 3) = true := decide_eq_true (by omega)
                go_upto_region 22 with fail
                rename_i KK hKK
                have HKK := hide hKK
                clear hKK
                go_wp2_with fail
                refine unhide HKK _ _ ?_
                clear HKK
                rename_i KI hKI
                go_cut [25] (fun _ wx => ∃ d : List Nat, Fo (E.set 5 K) d W nn mm i ∧ wx.ownsRow w.heap.size 5 1 (.slice (some ⟨gb, 0, none⟩) E.length cb) E.length (By d) ∧ w5.grownBy wx (some gb))
                case first =>
                  as_aux_lemma =>
                    clear hKI
                    go_wp2
                    go_loopw [25] (fun kk wq => ∃ (k : Nat) (d : List Nat), k ≤ 6 ∧ kk = .int .i64 (k : Nat) ∧ Fo (E.set 5 K) d W nn mm i ∧ wq.ownsRow w.heap.size 5 1 (.slice (some ⟨gb, 0, none⟩) E.length cb) E.length (By d) ∧ w5.grownBy wq (some gb)) (fun kk _ => 6 - (intOf kk).toNat)
                    case atStart => exact ⟨0, _, by omega, rfl, unhide HI0⟩
                    case round =>
                      obtain ⟨k, d2, hk6, rfl, hfo, hown, hgr⟩ := hrel
                      clear HI0
                      have hcq : wr.cell? ⟨w3.heap.size, i, none⟩ = some (.int .i64 (si : Nat)) := (World.cell?_of_block (hgr.block w3.heap.size hH5 (by simp; omega))).trans hci
                      have hbq : Below w.heap.size w wr := (unhide HB5).grown hgr (unhide HB5).size (fun k hk => by cases hk; exact hgb)
                      by_cases hin : k < na ∧ k < 6
                      · obtain ⟨hkna, hkl6⟩ := hin
                        have hkz : k < zs.length := by rw [← (unhide HZ).2.2]; exact hkna
                        obtain ⟨zb, zo, rfl, hzb', hzc⟩ := ((unhide HZ).1.below (hbq.mono hB)).at k _ (I64_at zs k hkz)
                        have hzr := (unhide HZ).2.1 _ (List.getElem_mem hkz)
                        generalize zs[k] = zk at *
                        obtain ⟨r3, hr3, hp3⟩ := kpick_fix zk 3 (by omega) (by omega) hzr
                        have HP3 := hide hp3
                        have HI := hide (And.intro hfo (And.intro hown hgr))
                        clear hp3 hbq hkz hzb'
                        by_cases hs0 : 0 < si
                        · by_cases hri : r3 = i
                          · as_aux_lemma =>
                              subst hri
                              obtain ⟨j, hj, hpj⟩ := kpick_fix (zk.tdiv 3) (8 * si) (by omega) (by omega) (tdiv3 hzr)
                              rw [show ((8 * si : Nat) : Int) = 8 * (si : Int) from by omega] at hpj
                              have HPJ := hide hpj
                              have hdl : d2.length = E.length := by rw [hfo.len, List.length_set]
                              have hcell := (hown.cellAt (14 + Fi + j / 8) (by omega)).trans (By_at d2 (14 + Fi + j / 8) (by omega))
                              have hfz := hown.frozenAt (14 + Fi + j / 8)
                              have hx : d2[14 + Fi + j / 8] < 256 := hfo.lt _ (List.getElem_mem _)
                              have HFL : Hid (flip d2 (8 * (14 + Fi) + j) = d2.set (14 + Fi + j / 8) (d2[14 + Fi + j / 8] ^^^ 2 ^ (j % 8))) := by
                                rw [Hid, flip_at, List.getElem?_eq_getElem (by omega)]
                                rfl
                              have HXO := hide (xor_pow d2[14 + Fi + j / 8] j hx)
                              have HFK : Hid (Fo (E.set 5 K) (flip d2 (8 * (14 + Fi) + j)) W nn mm r3) := by
                                refine hfo.keep (flip_len _ _) (flip_lt hfo.lt _) ?_
                                rw [(unhide HSI).2, flip_at]
                                exact take_set _ _ _ _ (by omega)
                              have hw1 : IntKind.i64.wrap (zk.tdiv 3) = zk.tdiv 3 := wrap_i64_of (tdiv3 hzr).1 (tdiv3 hzr).2
                              have hw2 : IntKind.i64.wrap (8 * (si : Int)) = 8 * (si : Int) := wrap_i64_of (by omega) (by omega)
                              clear hpj hfo hown hgr hzr
                              generalize d2[14 + Fi + j / 8] = x at *
                              generalize flip d2 (8 * (14 + Fi) + j) = d3 at *
                              have hj8 : j / 8 < si := by omega
                              have hr3I : (r3 : Int) < 3 := by omega
                              have hsiI : (si : Int) ≤ 3000 := by omega
                              have hkI : (k : Int) < (na : Int) := by omega
                              go_wp2_with (first | (go_at_call 15; refine at_same (unhide HP3 _) ?_))
                              refine wp_region_held_drew (S := fun w' => w'.cell? ⟨zb, zo + k, none⟩ = some (.int .i64 zk) ∧ w'.cell? ⟨w3.heap.size, r3, none⟩ = some (.int .i64 (si : Int))) (by kernel_rfl) ⟨hzc, hcq⟩ (fun hHeld => ?_)
                              refine wpAnyH_take (i := 0) (oi := { dst := some 151, op := Op.move (Operand.tmp 3), type := 23, pos := "keeps.go:344", after := #[], guard := none }) (v := ?v0) rfl (by kernel_rfl) (by kernel_rfl) (by kernel_rfl) (fun _ _ _ h => h) (Or.inl ⟨by rfl, ?hy0⟩) (by assumption) ?r0
                              case hy0 => (intro w hSw; (try dsimp only at hSw); go_simp; (try with_reducible rfl))
                              simp only [Act.put, List.setIfInBounds_toArray, List.set]
                              refine wpAnyH_take (i := 1) (oi := { dst := some 152, op := Op.move (Operand.tmp 25), type := 3, pos := "keeps.go:344", after := #[], guard := none }) (v := ?v1) rfl (by kernel_rfl) (by kernel_rfl) (by kernel_rfl) (fun _ _ _ h => h) (Or.inl ⟨by rfl, ?hy1⟩) (by assumption) ?r1
                              case hy1 => (intro w hSw; (try dsimp only at hSw); go_simp; (try with_reducible rfl))
                              simp only [Act.put, List.setIfInBounds_toArray, List.set]
                              refine wpAnyH_take (i := 2) (oi := { dst := some 153, op := Op.indexAddr 23 (Operand.tmp 151) (Operand.tmp 152), type := 0, pos := "keeps.go:344", after := #[{ on := 0, ground := Ground.data }, { on := 1, ground := Ground.data }], guard := none }) (v := ?v2) rfl (by kernel_rfl) (by kernel_rfl) (by kernel_rfl) (fun _ _ _ h => h) (Or.inl ⟨by rfl, ?hy2⟩) (by assumption) ?r2
                              case hy2 => (intro w hSw; (try dsimp only at hSw); go_simp; (try with_reducible rfl))
                              simp only [Act.put, List.setIfInBounds_toArray, List.set]
                              refine wpAnyH_take (i := 3) (oi := { dst := some 154, op := Op.load 3 (Operand.tmp 153), type := 3, pos := "keeps.go:344", after := #[{ on := 2, ground := Ground.data }], guard := none }) (v := ?v3) rfl (by kernel_rfl) (by kernel_rfl) (by kernel_rfl) (fun _ _ _ h => h) (Or.inl ⟨by rfl, ?hy3⟩) (by assumption) ?r3
                              case hy3 => (intro w hSw; (try dsimp only at hSw); go_simp; (try with_reducible rfl))
                              simp only [Act.put, List.setIfInBounds_toArray, List.set]
                              refine wpAnyH_take (i := 4) (oi := { dst := some 155, op := Op.binOp BinOp.quo 3 (Operand.tmp 154) (Operand.const (Value.int IntKind.i64 3)) 3, type := 3, pos := "keeps.go:344", after := #[{ on := 3, ground := Ground.data }], guard := none }) (v := ?v4) rfl (by kernel_rfl) (by kernel_rfl) (by kernel_rfl) (fun _ _ _ h => h) (Or.inl ⟨by rfl, ?hy4⟩) (by assumption) ?r4
                              case hy4 => (intro w hSw; (try dsimp only at hSw); go_simp; (try with_reducible rfl))
                              simp only [Act.put, List.setIfInBounds_toArray, List.set]
                              refine wpAnyH_take (i := 5) (oi := { dst := some 156, op := Op.move (Operand.tmp 22), type := 23, pos := "keeps.go:344", after := #[], guard := none }) (v := ?v5) rfl (by kernel_rfl) (by kernel_rfl) (by kernel_rfl) (fun _ _ _ h => h) (Or.inl ⟨by rfl, ?hy5⟩) (by assumption) ?r5
                              case hy5 => (intro w hSw; (try dsimp only at hSw); go_simp; (try with_reducible rfl))
                              simp only [Act.put, List.setIfInBounds_toArray, List.set]
                              refine wpAnyH_take (i := 6) (oi := { dst := some 157, op := Op.move (Operand.tmp 24), type := 3, pos := "keeps.go:344", after := #[], guard := none }) (v := ?v6) rfl (by kernel_rfl) (by kernel_rfl) (by kernel_rfl) (fun _ _ _ h => h) (Or.inl ⟨by rfl, ?hy6⟩) (by assumption) ?r6
                              case hy6 => (intro w hSw; (try dsimp only at hSw); go_simp; (try with_reducible rfl))
                              simp only [Act.put, List.setIfInBounds_toArray, List.set]
                              refine wpAnyH_take (i := 7) (oi := { dst := some 158, op := Op.indexAddr 23 (Operand.tmp 156) (Operand.tmp 157), type := 0, pos := "keeps.go:344", after := #[{ on := 5, ground := Ground.data }, { on := 6, ground := Ground.data }], guard := none }) (v := ?v7) rfl (by kernel_rfl) (by kernel_rfl) (by kernel_rfl) (fun _ _ _ h => h) (Or.inl ⟨by rfl, ?hy7⟩) (by assumption) ?r7
                              case hy7 => (intro w hSw; (try dsimp only at hSw); go_simp; (try with_reducible rfl))
                              simp only [Act.put, List.setIfInBounds_toArray, List.set]
                              refine wpAnyH_take (i := 8) (oi := { dst := some 159, op := Op.load 3 (Operand.tmp 158), type := 3, pos := "keeps.go:344", after := #[{ on := 7, ground := Ground.data }], guard := none }) (v := ?v8) rfl (by kernel_rfl) (by kernel_rfl) (by kernel_rfl) (fun _ _ _ h => h) (Or.inl ⟨by rfl, ?hy8⟩) (by assumption) ?r8
                              case hy8 => (intro w hSw; (try dsimp only at hSw); go_simp; (try with_reducible rfl))
                              simp only [Act.put, List.setIfInBounds_toArray, List.set]
                              refine wpAnyH_take (i := 9) (oi := { dst := some 160, op := Op.binOp BinOp.mul 3 (Operand.const (Value.int IntKind.i64 8)) (Operand.tmp 159) 3, type := 3, pos := "keeps.go:344", after := #[{ on := 8, ground := Ground.data }], guard := none }) (v := ?v9) rfl (by kernel_rfl) (by kernel_rfl) (by kernel_rfl) (fun _ _ _ h => h) (Or.inl ⟨by rfl, ?hy9⟩) (by assumption) ?r9
                              case hy9 => (intro w hSw; (try dsimp only at hSw); go_simp; (try with_reducible rfl))
                              simp only [Act.put, List.setIfInBounds_toArray, List.set]
                              refine wpAnyH_ready (rs := [10]) (by kernel_rfl) (by simp) ?_
                              refine AllReadyH.cons (o := { dst := some 161, op := Op.call { callee := Callee.value (Operand.func 15), args := #[Operand.tmp 155, Operand.tmp 160], argTypes := #[3, 3] }, type := 3, pos := "keeps.go:344", after := #[{ on := 4, ground := Ground.data }, { on := 9, ground := Ground.data }], guard := none }) rfl (fun K hK => ?_) AllReadyH.nil
                              go_simp
                              refine at_same (unhide HPJ _) ?_
                              refine hK.out _ _ ?_ (fun hHeld => ?_)
                              · exact hHeld
                              clear hK K
                              try simp only [Act.put, List.setIfInBounds_toArray, List.set]
                              refine wpAnyH_take (i := 11) (oi := { dst := some 26, op := Op.assign (Operand.tmp 161), type := 3, pos := "keeps.go:344", after := #[{ on := 10, ground := Ground.data }, { on := 10, ground := Ground.chain }, { on := 0, ground := Ground.phase }, { on := 1, ground := Ground.phase }, { on := 2, ground := Ground.phase }, { on := 3, ground := Ground.phase }, { on := 4, ground := Ground.phase }, { on := 5, ground := Ground.phase }, { on := 6, ground := Ground.phase }, { on := 7, ground := Ground.phase }, { on := 8, ground := Ground.phase }, { on := 9, ground := Ground.phase }, { on := 10, ground := Ground.phase }], guard := none }) (v := ?v11) rfl (by kernel_rfl) (by kernel_rfl) (by kernel_rfl) (fun _ _ _ h => h) (Or.inl ⟨by rfl, ?hy11⟩) (by assumption) ?r11
                              case hy11 => (intro w hSw; (try dsimp only at hSw); go_simp; (try with_reducible rfl))
                              simp only [Act.put, List.setIfInBounds_toArray, List.set]
                              refine wpAnyH_done (by kernel_rfl) ?_ _
                              go_wp2_with fail
                              go_region
                              all_goals go_wp2
                              go_roundw
                              case rel =>
                                have hs := (unhide HI).2.1.stored (14 + Fi + j / 8) (.int .u8 ((x ^^^ 2 ^ (j % 8) : Nat) : Int))
                                rw [← By_set, ← unhide HFL] at hs
                                have hg := grown_trans (unhide HI).2.2 hs.2
                                rw [unhide HXO]
                                exact ⟨k + 1, d3, by omega, by go_num, unhide HFK, hs.1.drew.drew, ⟨hg.os, hg.tape, hg.output, hg.size, hg.block⟩⟩
                              case measure => simp [intOf]; omega
                          · have hne : ((r3 : Int) == (i : Int)) = false := by rw [beq_eq_false_iff_ne]; omega
                            have hne2 : (r3 == i) = false := by rw [beq_eq_false_iff_ne]; omega
                            clear hfo hown hgr hzr
                            go_wp2_with (first | (go_at_call 15; refine at_same (unhide HP3 _) ?_))
                            go_roundw
                            case rel => exact ⟨k + 1, d2, by omega, by go_num, unhide HI⟩
                            case measure => simp [intOf]; omega
                        · have he : si = 0 := by omega
                          subst he
                          clear hfo hown hgr hzr
                          go_wp2
                          go_roundw
                          case rel => exact ⟨k + 1, d2, by omega, by go_num, unhide HI⟩
                          case measure => simp [intOf]; omega
                      · have HI := hide (And.intro hfo (And.intro hown hgr))
                        have hex : (¬ k < na) ∨ (k < na ∧ ¬ k < 6) := by omega
                        clear hfo hown hgr hbq hin
                        rcases hex with hex | ⟨hex, hex2⟩
                        all_goals
                          go_wp2
                          go_meet
                          exact ⟨d2, unhide HI⟩
                case rest =>
                  as_aux_lemma =>
                    obtain ⟨d2, hfo, hown, hgr⟩ := hcut
                    have hdl : d2.length = E.length := by rw [hfo.len, List.length_set]
                    have HSE := hide (kseal_any w.heap.size gb cb d2 (14 + Fi) (14 + Fi + si) wc (by rw [hdl]; exact hown) hfo.lt (by omega) (by omega) (by omega))
                    rw [hdl] at HSE
                    have HFS2 : Hid (Fo (E.set 5 K) (sealAt d2 (14 + Fi) (14 + Fi + si)) W nn mm (i + 1)) := by
                      have := hfo.sealAt (by rw [(unhide HSI).1, (unhide HSI).2, hdl]; exact hfi)
                      rw [(unhide HSI).1, (unhide HSI).2] at this
                      exact this
                    generalize sealAt d2 (14 + Fi) (14 + Fi + si) = d4 at *
                    have hcq : wc.cell? ⟨w3.heap.size, i, none⟩ = some (.int .i64 (si : Nat)) := (World.cell?_of_block (hgr.block w3.heap.size hH5 (by simp; omega))).trans hci
                    have HGR := hide hgr
                    have hcu : 14 + Fi + si + 4 ≤ 3000 := by omega
                    clear hfo hown hgr
                    have e1 : ((14 + Fi : Nat) : Int) = 14 + (Fi : Int) := by omega
                    have e2 : ((14 + Fi + si : Nat) : Int) = 14 + (Fi : Int) + (si : Int) := by omega
                    rw [e1, e2] at HSE
                    have hHc : w3.heap.size < wc.heap.size := Nat.lt_of_lt_of_le hH5 (unhide HGR).size
                    clear e1 e2
                    go_wp2_with fail
                    refine (unhide HSE).mono ?_
                    rintro e ws ⟨rfl, hos, hgs⟩
                    have hcs : ws.cell? ⟨w3.heap.size, i, none⟩ = some (.int .i64 (si : Nat)) := (World.cell?_of_block (hgs.block w3.heap.size hHc (by simp; omega))).trans hcq
                    have HFI := hide (And.intro hos (grown_trans (unhide HGR) hgs))
                    clear hos hgs hcq HSE HGR hHc
                    go_wp2
                    go_roundw
                    case rel => exact ⟨i + 1, d4, by omega, by go_num, by rw [unhide HFS]; go_num, unhide HFS2, unhide HFI⟩
                    case measure => simp [intOf]; omega
              · have he : i = 3 := by omega
                subst he
                have HI := hide (And.intro hfo (And.intro hown hgr))
                clear hfo hown hgr
                go_wp2
                go_meet
                exact ⟨dd, unhide HI⟩
        case rest =>
          as_aux_lemma =>
            obtain ⟨d3, hfo, hown, hgr⟩ := hcut
            have hdl : d3.length = E.length := by rw [hfo.len, List.length_set]
            have HSE := hide (kseal_any w.heap.size gb cb d3 0 10 wc (by rw [hdl]; exact hown) hfo.lt (by omega) (by omega) (by omega))
            rw [hdl] at HSE
            have hfo2 : Fo ((Sp.encode vs ms).set 5 K) d3 (Sp.widthOf vs) vs.length ms.length 3 := by
              rw [unhide HEE, (unhide HNN).1, (unhide HNN).2.1, (unhide HNN).2.2]
              exact hfo
            have HRES : Hid (∀ (lo : Nat) (w' : World) (pv : Option Addr) (f : Nat), LoadRes lo w' (sealAt d3 0 10) pv f → (pv = none ∧ (f = 10 ∨ f = 11 ∨ f = 13)) ∨ (∃ X us ns, pv = some ⟨X, 0, none⟩ ∧ f = 0 ∧ Fits us ns ∧ Sp.encode us ns = sealAt d3 0 10 ∧ Idx lo w'.heap.size w' X us ns)) := fun lo w' pv f h => res_forged (unhide HF) hfo2 h
            have HDL : Hid ((sealAt d3 0 10).length = E.length) := by rw [Hid, seal_len, hdl]
            have HDB := hide (seal_lt hfo.lt 0 10)
            have HBC : Hid (Below w.heap.size w wc) := (unhide HB5).grown hgr (unhide HB5).size (fun k hk => by cases hk; exact hgb)
            have HC5 := hide hgr
            generalize sealAt d3 0 10 = D at *
            clear hfo hfo2 hown hgr hdl HO5 HF0 HCS HFR HB5 HSS HZZ
            go_wp2_with fail
            refine (unhide HSE).mono ?_
            rintro e w6 ⟨rfl, ho6, hg6⟩
            have HB6 : Hid (Below w.heap.size w w6) := (unhide HBC).grown hg6 (unhide HBC).size (fun k hk => by cases hk; exact hgb)
            have HC6 := hide (kcopiedBytes_any (some ⟨gb, 0, none⟩) _ E.length cb D w6 (Rd.owned ho6) (by omega))
            have HR6 := hide (Rd.owned ho6)
            clear ho6 hg6 HSE HBC HC5
            go_wp2_with fail
            refine (unhide HC6).mono ?_
            rintro e w7 ⟨v7, rfl, ho7, hb7⟩
            rw [unhide HDL] at ho7
            obtain ⟨p7, c7, rfl, _⟩ := own_slice ho7
            have hbw7 := bel_trans (unhide HB6) hb7
            have HLD := hide (load_any w7.heap.size p7 E.length c7 D w7 (Rd.owned ho7) (Nat.le_refl _) (unhide HDB) (by omega) ((unhide HT).below hbw7 (unhide HT).1) ((unhide HU).below hbw7 (unhide HU).1))
            have HR7 := hide (((unhide HR6).below hb7).mono hb7.size)
            have HB7 := hide hbw7
            clear ho7 hb7 hbw7 HC6 HR6 HB6
            go_wp2_with fail
            refine (unhide HLD).mono ?_
            rintro e w8 ⟨pv, f, rfl, hres, hb8⟩
            have HB8 := hide (bel_trans (unhide HB7) hb8)
            have HR8 := hide (((unhide HR7).below hb8).mono hb8.size)
            clear HLD hb8 HB7 HR7
            rcases unhide HRES _ _ _ _ hres with ⟨rfl, hf⟩ | ⟨Y, us, ns, rfl, rfl, hfu, heu, hidx⟩
            · clear hres HRES
              rcases hf with rfl | rfl | rfl
              all_goals
                go_wp2
                go_ret
                exact ⟨rfl, unhide HB8⟩
            · have hay : Pr.Ask w8 Y us ns := ⟨⟨_, _, hidx⟩, hfu, (unhide HU).below (unhide HB8) (unhide HU).1⟩
              have HTO := hide (ktold_any Y us ns w8 hay)
              have HAY := hide hay
              have HFU := hide hfu
              have HEU := hide heu
              have hn3 := hfu.len
              have hm3 : ns.length ≤ 200 := Nat.le_trans hfu.mlen hfu.len
              clear hres HRES hidx hfu heu hay
              go_wp2_with fail
              refine (unhide HTO).mono ?_
              rintro e w9 ⟨V9, M9, rfl, ho9, hp9, hb9⟩
              obtain ⟨pA, cA, rfl, _⟩ := own_slice ho9
              obtain ⟨pB, cB, rfl, _⟩ := own_slice hp9
              have hbt := bel_trans hb9 (alloc_bel w9 (.cells #[.slice pA us.length cA, .slice pB ns.length cB] 25))
              have hbw9 := bel_trans (unhide HB8) hbt
              have k0 := box5 w9 #[.slice pA us.length cA, .slice pB ns.length cB] 25 0 _ rfl
              have k1 := box5 w9 #[.slice pA us.length cA, .slice pB ns.length cB] 25 1 _ rfl
              have HBU := hide (kbuilt_idx _ pA us.length cA us pB ns.length cB ns _ (Rd.owned (ho9.alloc (.cells #[.slice pA us.length cA, .slice pB ns.length cB] 25))) (Rd.owned (hp9.alloc (.cells #[.slice pA us.length cA, .slice pB ns.length cB] 25))) (Nat.le_refl _) (unhide HFU) ((unhide HU).below hbw9 (unhide HU).1))
              have HBT := hide hbt
              clear ho9 hp9 hb9 hbt hbw9 HTO
              generalize hnu : us.length = nu at *
              generalize hnv : ns.length = nv at *
              clear hnu hnv
              go_wp2_with fail
              refine (unhide HBU).mono ?_
              rintro e w10 ⟨Z, rfl, hidz, hb10⟩
              have hb810 := bel_trans (unhide HBT) hb10
              have hbw10 := bel_trans (unhide HB8) hb810
              have HRC := hide (((unhide HR8).below hb810).mono hb810.size)
              have haz : Pr.Ask w10 Z us ns := ⟨⟨_, _, hidz⟩, unhide HFU, (unhide HU).below hbw10 (unhide HU).1⟩
              have hay := (unhide HAY).later hb810
              have HENC : Hid (∀ (P : Nat) (w' : World), (P = Y ∨ P = Z) → Below w10.heap.size w10 w' → Calls Tryd.prog 25 #[.pointer (some ⟨P, 0, none⟩)] w' fun e w'' => ∃ v, e = .returned v ∧ w''.ownsRow w'.heap.size 5 1 v E.length (By D) ∧ Below w'.heap.size w' w'') := by
                intro P w' hP hb
                have hap : Pr.Ask w' P us ns := by
                  rcases hP with rfl | rfl
                  · exact hay.later hb
                  · exact haz.later hb
                obtain ⟨lo, hi, hix⟩ := hap.ix
                refine (encode_any lo hi P us ns w' hix hap.fit ((unhide HT).below (bel_trans hbw10 hb) (unhide HT).1)).mono ?_
                rintro e w'' ⟨v, rfl, hov, hbv⟩
                rw [By_len, unhide HEU, unhide HDL] at hov
                exact ⟨v, rfl, hov, hbv⟩
              have cvA := conv_rd (P := Tryd.prog) w10.drew 45 5 9 (rd_drew (unhide HRC)) Tryd.underlying45 Tryd.underlying5 Tryd.underlying9
              have HBW := hide hbw10
              have HD : Hid (Below w10.heap.size w10 w10.drew) := drew_bel _
              clear hbw10 hb810 hidz hb10 haz hay k0 k1 HBU HBT HAY HFU HEU HB8 HR8 HT HU HF HDL HDB HNN HEE
              generalize hSS : str D = S at *
              have HSS := hide hSS
              clear hSS
              go_wp2_with fail
              refine wp_region_held_drew (S := fun w' => (convert 45 9 (.slice (some ⟨gb, 0, none⟩) E.length cb)).run Tryd.prog w' = .ok (.string S) w') (by kernel_rfl) cvA (fun hHeld => ?_)
              refine wpAnyH_take (i := 0) (oi := { dst := some 237, op := Op.move (Operand.tmp 27), type := 28, pos := "keeps.go:364", after := #[], guard := none }) (v := ?x0) rfl (by kernel_rfl) (by kernel_rfl) (by kernel_rfl) (fun _ _ _ h => h) (Or.inl ⟨by rfl, ?hx0⟩) (by assumption) ?t0
              case hx0 => (intro w hSw; (try dsimp only at hSw); go_simp; (try with_reducible rfl))
              simp only [Act.put, List.setIfInBounds_toArray, List.set]
              refine wpAnyH_take (i := 3) (oi := { dst := some 240, op := Op.move (Operand.tmp 15), type := 45, pos := "keeps.go:364", after := #[], guard := none }) (v := ?x3) rfl (by kernel_rfl) (by kernel_rfl) (by kernel_rfl) (fun _ _ _ h => h) (Or.inl ⟨by rfl, ?hx3⟩) (by assumption) ?t3
              case hx3 => (intro w hSw; (try dsimp only at hSw); go_simp; (try with_reducible rfl))
              simp only [Act.put, List.setIfInBounds_toArray, List.set]
              refine wpAnyH_take (i := 4) (oi := { dst := some 241, op := Op.convert 45 9 (Operand.tmp 240), type := 9, pos := "keeps.go:364", after := #[{ on := 3, ground := Ground.data }], guard := none }) (v := ?x4) rfl (by kernel_rfl) (by kernel_rfl) (by kernel_rfl) (fun _ _ _ h => h) (Or.inl ⟨by rfl, ?hx4⟩) (by assumption) ?t4
              case hx4 => (intro w hSw; (try dsimp only at hSw); go_simp; (try with_reducible rfl))
              simp only [Act.put, List.setIfInBounds_toArray, List.set]
              refine wpAnyH_ready (rs := [1]) (by kernel_rfl) (by simp) ?_
              refine AllReadyH.cons (o := { dst := some 238, op := Op.call { callee := Callee.value (Operand.func 25), args := #[Operand.tmp 237], argTypes := #[28] }, type := 45, pos := "keeps.go:364", after := #[{ on := 0, ground := Ground.data }], guard := none }) rfl (fun K hK => ?_) AllReadyH.nil
              go_simp
              refine (unhide HENC _ _ (by first | exact .inl rfl | exact .inr rfl) (unhide HD)).mono ?_
              rintro e w8 ⟨v8, rfl, ho8, hb8⟩
              obtain ⟨pe, ce, rfl, _⟩ := own_slice ho8
              have hd := bel_trans (unhide HD) hb8
              have cvB := conv_rd (P := Tryd.prog) w8 45 5 9 (Rd.owned ho8) Tryd.underlying45 Tryd.underlying5 Tryd.underlying9
              have cvC := conv_rd (P := Tryd.prog) w8 45 5 9 ((unhide HRC).below hd) Tryd.underlying45 Tryd.underlying5 Tryd.underlying9
              rw [unhide HSS] at cvB cvC
              have HD := hide hd
              clear ho8 hb8 hd
              refine hK.out _ _ ?_ (fun hHeld => ?_)
              · exact cvC
              clear hK K
              try simp only [Act.put, List.setIfInBounds_toArray, List.set]
              refine wpAnyH_ready (rs := [2]) (by kernel_rfl) (by simp) ?_
              refine AllReadyH.cons (o := { dst := some 239, op := Op.convert 45 9 (Operand.tmp 238), type := 9, pos := "keeps.go:364", after := #[{ on := 1, ground := Ground.data }], guard := none }) rfl (fun K hK => ?_) AllReadyH.nil
              go_simp
              refine hK.out _ _ ?_ (fun hHeld => ?_)
              · exact cvC
              clear hK K
              try simp only [Act.put, List.setIfInBounds_toArray, List.set]
              refine wpAnyH_take (i := 5) (oi := { dst := some 242, op := Op.binOp BinOp.eql 9 (Operand.tmp 239) (Operand.tmp 241) 9, type := 4, pos := "keeps.go:364", after := #[{ on := 2, ground := Ground.data }, { on := 4, ground := Ground.data }], guard := none }) (v := ?x5) rfl (by kernel_rfl) (by kernel_rfl) (by kernel_rfl) (fun _ _ _ h => h) (Or.inl ⟨by rfl, ?hx5⟩) (by assumption) ?t5
              case hx5 => (intro w hSw; (try dsimp only at hSw); go_simp; (try with_reducible rfl))
              simp only [Act.put, List.setIfInBounds_toArray, List.set]
              refine wpAnyH_take (i := 6) (oi := { dst := some 243, op := Op.move (Operand.tmp 242), type := 4, pos := "keeps.go:364", after := #[{ on := 5, ground := Ground.data }, { on := 1, ground := Ground.chain }], guard := none }) (v := ?x6) rfl (by kernel_rfl) (by kernel_rfl) (by kernel_rfl) (fun _ _ _ h => h) (Or.inl ⟨by rfl, ?hx6⟩) (by assumption) ?t6
              case hx6 => (intro w hSw; (try dsimp only at hSw); go_simp; (try with_reducible rfl))
              simp only [Act.put, List.setIfInBounds_toArray, List.set]
              refine wpAnyH_take (i := 7) (oi := { dst := some 244, op := Op.move (Operand.tmp 31), type := 28, pos := "keeps.go:364", after := #[{ on := 6, ground := Ground.guard }], guard := some (6, true) }) (v := ?x7) rfl (by kernel_rfl) (by kernel_rfl) (by kernel_rfl) (fun _ _ _ h => h) (Or.inl ⟨by rfl, ?hx7⟩) (by assumption) ?t7
              case hx7 => (intro w hSw; (try dsimp only at hSw); go_simp; (try with_reducible rfl))
              simp only [Act.put, List.setIfInBounds_toArray, List.set]
              refine wpAnyH_take (i := 10) (oi := { dst := some 247, op := Op.move (Operand.tmp 15), type := 45, pos := "keeps.go:364", after := #[{ on := 6, ground := Ground.guard }], guard := some (6, true) }) (v := ?x10) rfl (by kernel_rfl) (by kernel_rfl) (by kernel_rfl) (fun _ _ _ h => h) (Or.inl ⟨by rfl, ?hx10⟩) (by assumption) ?t10
              case hx10 => (intro w hSw; (try dsimp only at hSw); go_simp; (try with_reducible rfl))
              simp only [Act.put, List.setIfInBounds_toArray, List.set]
              refine wpAnyH_take (i := 11) (oi := { dst := some 248, op := Op.convert 45 9 (Operand.tmp 247), type := 9, pos := "keeps.go:364", after := #[{ on := 10, ground := Ground.data }, { on := 6, ground := Ground.guard }], guard := some (6, true) }) (v := ?x11) rfl (by kernel_rfl) (by kernel_rfl) (by kernel_rfl) (fun _ _ _ h => h) (Or.inl ⟨by rfl, ?hx11⟩) (by assumption) ?t11
              case hx11 => (intro w hSw; (try dsimp only at hSw); go_simp; (try with_reducible rfl))
              simp only [Act.put, List.setIfInBounds_toArray, List.set]
              refine wpAnyH_ready (rs := [8]) (by kernel_rfl) (by simp) ?_
              refine AllReadyH.cons (o := { dst := some 245, op := Op.call { callee := Callee.value (Operand.func 25), args := #[Operand.tmp 244], argTypes := #[28] }, type := 45, pos := "keeps.go:364", after := #[{ on := 7, ground := Ground.data }, { on := 6, ground := Ground.chain }, { on := 6, ground := Ground.guard }], guard := some (6, true) }) rfl (fun K hK => ?_) AllReadyH.nil
              go_simp
              refine (unhide HENC _ _ (by first | exact .inl rfl | exact .inr rfl) (unhide HD)).mono ?_
              rintro e w8 ⟨v8, rfl, ho8, hb8⟩
              obtain ⟨pe, ce, rfl, _⟩ := own_slice ho8
              have hd := bel_trans (unhide HD) hb8
              have cvB := conv_rd (P := Tryd.prog) w8 45 5 9 (Rd.owned ho8) Tryd.underlying45 Tryd.underlying5 Tryd.underlying9
              have cvC := conv_rd (P := Tryd.prog) w8 45 5 9 ((unhide HRC).below hd) Tryd.underlying45 Tryd.underlying5 Tryd.underlying9
              rw [unhide HSS] at cvB cvC
              have HD := hide hd
              clear ho8 hb8 hd
              refine hK.out _ _ ?_ (fun hHeld => ?_)
              · exact cvC
              clear hK K
              try simp only [Act.put, List.setIfInBounds_toArray, List.set]
              refine wpAnyH_ready (rs := [9]) (by kernel_rfl) (by simp) ?_
              refine AllReadyH.cons (o := { dst := some 246, op := Op.convert 45 9 (Operand.tmp 245), type := 9, pos := "keeps.go:364", after := #[{ on := 8, ground := Ground.data }, { on := 6, ground := Ground.guard }], guard := some (6, true) }) rfl (fun K hK => ?_) AllReadyH.nil
              go_simp
              refine hK.out _ _ ?_ (fun hHeld => ?_)
              · exact cvC
              clear hK K
              try simp only [Act.put, List.setIfInBounds_toArray, List.set]
              refine wpAnyH_take (i := 12) (oi := { dst := some 249, op := Op.binOp BinOp.eql 9 (Operand.tmp 246) (Operand.tmp 248) 9, type := 4, pos := "keeps.go:364", after := #[{ on := 9, ground := Ground.data }, { on := 11, ground := Ground.data }, { on := 6, ground := Ground.guard }], guard := some (6, true) }) (v := ?x12) rfl (by kernel_rfl) (by kernel_rfl) (by kernel_rfl) (fun _ _ _ h => h) (Or.inl ⟨by rfl, ?hx12⟩) (by assumption) ?t12
              case hx12 => (intro w hSw; (try dsimp only at hSw); go_simp; (try with_reducible rfl))
              simp only [Act.put, List.setIfInBounds_toArray, List.set]
              refine wpAnyH_take (i := 13) (oi := { dst := some 250, op := Op.pick (Operand.tmp 243) (Operand.tmp 249) (Operand.const (Value.bool false)), type := 4, pos := "keeps.go:364", after := #[{ on := 6, ground := Ground.data }, { on := 12, ground := Ground.data }], guard := none }) (v := ?x13) rfl (by kernel_rfl) (by kernel_rfl) (by kernel_rfl) (fun _ _ _ h => h) (Or.inl ⟨by rfl, ?hx13⟩) (by assumption) ?t13
              case hx13 => (intro w hSw; (try dsimp only at hSw); go_simp; (try with_reducible rfl))
              simp only [Act.put, List.setIfInBounds_toArray, List.set]
              refine wpAnyH_take (i := 14) (oi := { dst := some 12, op := Op.assign (Operand.tmp 250), type := 4, pos := "keeps.go:364", after := #[{ on := 13, ground := Ground.data }, { on := 8, ground := Ground.chain }, { on := 0, ground := Ground.phase }, { on := 1, ground := Ground.phase }, { on := 2, ground := Ground.phase }, { on := 3, ground := Ground.phase }, { on := 4, ground := Ground.phase }, { on := 5, ground := Ground.phase }, { on := 6, ground := Ground.phase }, { on := 7, ground := Ground.phase }, { on := 8, ground := Ground.phase }, { on := 9, ground := Ground.phase }, { on := 10, ground := Ground.phase }, { on := 11, ground := Ground.phase }, { on := 12, ground := Ground.phase }, { on := 13, ground := Ground.phase }], guard := none }) (v := ?x14) rfl (by kernel_rfl) (by kernel_rfl) (by kernel_rfl) (fun _ _ _ h => h) (Or.inl ⟨by rfl, ?hx14⟩) (by assumption) ?t14
              case hx14 => (intro w hSw; (try dsimp only at hSw); go_simp; (try with_reducible rfl))
              simp only [Act.put, List.setIfInBounds_toArray, List.set]
              refine wpAnyH_done (by kernel_rfl) ?_ _
              go_wp2
              go_ret
              exact ⟨ret_bool (by simp), bel_trans (unhide HBW) (unhide HD)⟩
end Kp
end Go.Proofs.YtolkjadklbchfaaDoor
