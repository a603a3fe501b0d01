import Derived.Test.YtolkjadklbchfaaDoorK3
import Derived.Test.YtolkjadklbchfaaDoorK1
import Derived.Deep.DeepCutAuto
/- Walks of the keeps: Held. -/
open Go Go.RowKit
namespace Go.Proofs.YtolkjadklbchfaaDoor
namespace Kp
open Mem Rf Pr

/-- The greatest mark that is p or less, looked for from the first on; -1: none. -/
def WantB (ms : List Nat) (p w : Int) : Prop := (w = -1 ∧ ∀ x ∈ ms, p < (x : Int)) ∨ ∃ x ∈ ms, w = (x : Int) ∧ (x : Int) ≤ p ∧ ∀ y ∈ ms, (y : Int) ≤ p → y ≤ x
def WantA (ms : List Nat) (p w : Int) : Prop := (w = -1 ∧ ∀ x ∈ ms, (x : Int) < p) ∨ ∃ x ∈ ms, w = (x : Int) ∧ p ≤ (x : Int) ∧ ∀ y ∈ ms, p ≤ (y : Int) → x ≤ y
theorem WantB.yes {ms : List Nat} (hr : Sp.Rises ms) {p w : Int} {k : Nat} (hk : k < ms.length) (_h : WantB (ms.take k) p w) (hp : ((ms[k] : Nat) : Int) ≤ p) : WantB (ms.take (k + 1)) p (ms[k] : Nat) := by
  refine Or.inr ⟨ms[k], by rw [List.take_succ_eq_append_getElem hk]; exact List.mem_append_right _ (List.mem_singleton.2 rfl), rfl, hp, fun y hy _ => ?_⟩
  obtain ⟨j, hj, rfl⟩ := List.mem_iff_getElem.1 hy
  simp at hj
  rw [List.getElem_take]
  have := hr.le (show j ≤ k by omega) hk
  simpa [hk, show j < ms.length from by omega] using this
theorem WantB.no {ms : List Nat} {p w : Int} {k : Nat} (hk : k < ms.length) (h : WantB (ms.take k) p w) (hp : ¬ ((ms[k] : Nat) : Int) ≤ p) : WantB (ms.take (k + 1)) p w := by
  rw [List.take_succ_eq_append_getElem hk]
  rcases h with ⟨rfl, h⟩ | ⟨x, hx, rfl, h1, h2⟩
  · refine Or.inl ⟨rfl, fun y hy => ?_⟩
    rcases List.mem_append.1 hy with h3 | h3
    · exact h y h3
    · simp at h3
      subst h3
      omega
  · refine Or.inr ⟨x, List.mem_append_left _ hx, rfl, h1, fun y hy hyp => ?_⟩
    rcases List.mem_append.1 hy with h3 | h3
    · exact h2 y h3 hyp
    · simp at h3
      subst h3
      omega
theorem WantA.yes {ms : List Nat} (hr : Sp.Rises ms) {p w : Int} {k : Nat} (hk : k < ms.length) (_h : WantA (ms.drop (k + 1)) p w) (hp : p ≤ ((ms[k] : Nat) : Int)) : WantA (ms.drop k) p (ms[k] : Nat) := by
  refine Or.inr ⟨ms[k], by rw [List.drop_eq_getElem_cons hk]; exact List.mem_cons_self .., rfl, hp, fun y hy _ => ?_⟩
  obtain ⟨j, hj, rfl⟩ := List.mem_iff_getElem.1 hy
  simp at hj
  rw [List.getElem_drop]
  have := hr.le (show k ≤ k + j by omega) (by omega)
  simpa [hk, show k + j < ms.length from by omega] using this
theorem WantA.no {ms : List Nat} {p w : Int} {k : Nat} (hk : k < ms.length) (h : WantA (ms.drop (k + 1)) p w) (hp : ¬ p ≤ ((ms[k] : Nat) : Int)) : WantA (ms.drop k) p w := by
  rw [List.drop_eq_getElem_cons hk]
  rcases h with ⟨rfl, h⟩ | ⟨x, hx, rfl, h1, h2⟩
  · refine Or.inl ⟨rfl, fun y hy => ?_⟩
    rcases List.mem_cons.1 hy with h3 | h3
    · subst h3
      omega
    · exact h y h3
  · refine Or.inr ⟨x, List.mem_cons_of_mem _ hx, rfl, h1, fun y hy hyp => ?_⟩
    rcases List.mem_cons.1 hy with h3 | h3
    · subst h3
      omega
    · exact h2 y h3 hyp
theorem WantB.meets {ms : List Nat} {p w a e : Int} (h : WantB ms p w) (g : Sp.BeforeRes ms p a e) : (0 ≤ w ∧ e = 0 ∧ a = w) ∨ (w < 0 ∧ e = 5 ∧ a = 0) := by
  rcases h with ⟨rfl, h⟩ | ⟨x, hx, rfl, h1, h2⟩
  · have : Sp.BeforeRes ms p 0 5 := Or.inl ⟨h, rfl, rfl⟩
    obtain ⟨e1, e2⟩ := g.uniq this
    exact .inr ⟨by omega, e2, e1⟩
  · have : Sp.BeforeRes ms p x 0 := Or.inr ⟨x, hx, h1, h2, rfl, rfl⟩
    obtain ⟨e1, e2⟩ := g.uniq this
    exact .inl ⟨by omega, e2, e1⟩
theorem WantA.meets {ms : List Nat} {p w a e : Int} (h : WantA ms p w) (g : Sp.AfterRes ms p a e) : (0 ≤ w ∧ e = 0 ∧ a = w) ∨ (w < 0 ∧ e = 5 ∧ a = 0) := by
  rcases h with ⟨rfl, h⟩ | ⟨x, hx, rfl, h1, h2⟩
  · have : Sp.AfterRes ms p 0 5 := Or.inl ⟨h, rfl, rfl⟩
    obtain ⟨e1, e2⟩ := g.uniq this
    exact .inr ⟨by omega, e2, e1⟩
  · have : Sp.AfterRes ms p x 0 := Or.inr ⟨x, hx, h1, h2, rfl, rfl⟩
    obtain ⟨e1, e2⟩ := g.uniq this
    exact .inl ⟨by omega, e2, e1⟩
theorem WantB.range {ms : List Nat} {n : Nat} (hm : ∀ x ∈ ms, x < n) {p w : Int} (h : WantB ms p w) : -1 ≤ w ∧ w < n := by
  rcases h with ⟨rfl, _⟩ | ⟨x, hx, rfl, _, _⟩
  · omega
  · have := hm x hx; omega
theorem WantA.range {ms : List Nat} {n : Nat} (hm : ∀ x ∈ ms, x < n) {p w : Int} (h : WantA ms p w) : -1 ≤ w ∧ w < n := by
  rcases h with ⟨rfl, _⟩ | ⟨x, hx, rfl, _, _⟩
  · omega
  · have := hm x hx; omega

set_option maxHeartbeats 4000000 in
set_option maxRecDepth 20000 in
theorem kheld_any (B : Nat) (p : Option Addr) (n c : Nat) (xs : List Nat) (q : Option Addr) (m d : Nat) (ys : List Int) (few at' pp : Int) (w : World) (hv : Rd B w (.slice p n c) (U64 xs)) (hy : Rd B w (.slice q m d) (I64 ys)) (hB : B ≤ w.heap.size) (hbig : ∀ x ∈ xs, x < 18446744073709551616) (hn : n ≤ 17592186044000)
    (hfew : -9223372036854775808 ≤ few ∧ few ≤ 9223372036854775807) (hat : -9223372036854775808 ≤ at' ∧ at' ≤ 9223372036854775807) (hpp : -9223372036854775808 ≤ pp ∧ pp ≤ 9223372036854775807) (hT : Bru w) :
    Calls Tryd.prog 3 #[.slice p n c, .slice q m d, .int .i64 few, .int .i64 at', .int .i64 pp] w fun e w' => e = .returned (.bool true) ∧ Below w.heap.size w w' := by
  have HRW := hide (fun (w' : World) (hb : Below w.heap.size w w') => krow_any B p n c xs q m d ys few w' (hv.below (hb.mono hB)) (hy.below (hb.mono hB)) (Nat.le_trans hB hb.size) hbig hn hfew)
  have HT := hide hT
  clear hv hy hbig hT
  go_enter Tryd.func3, Tryd.ntmps3
  go_wp2_with fail
  refine (unhide HRW w (Below.refl _ _)).mono ?_
  rintro e w1 ⟨V, M, vs, ms, rfl, hoV, hoM, hap, hmd, hb1⟩
  obtain ⟨pV, cV, rfl, _⟩ := own_slice hoV
  obtain ⟨pM, cM, rfl, _⟩ := own_slice hoM
  clear HRW
  have hlen := hmd.len
  have hvl : vs.length ≤ 200 := by omega
  have hroom : vs.length ≤ 10000000000000 := by omega
  clear hlen
  have HV := hide hoV
  have HM := hide hoM
  have HX := hide (And.intro hap hb1)
  have HMD := hide hmd
  clear hoV hoM hap hb1 hmd
  have hbs : w.heap.size ≤ w1.heap.size := (unhide HX).2.size
  have HFA : Hid (vs.length < 200 → Fits (vs ++ [7]) ms) := fun h => by
    have hm := (unhide HMD).val (x := 7) (by omega)
    rw [← (unhide HMD).len] at hm
    exact hm.fits (by omega)
  have HFB : Hid (vs.length = 200 → Fits (vs ++ [7]).tail []) := fun h => by
    have hm := unhide HMD
    rw [← hm.len, h] at hm
    exact ⟨fun x hx => (hm.val (x := 7) (by omega)).big x (List.mem_of_mem_tail hx), by simp, by simp [h], by simp, fun i j _ hj => by simp at hj⟩
  go_upto_if 50 with (at_builtin; go_loud (refine wpList_app _ rfl (.tmp 43) (.tmp 44) 22 rfl w.heap.size 27 (.int .u64 0) 8 Tryd.underlying22 Ty.u64 rfl (.slice pV vs.length cV) _ _ rfl (((unhide HV).alloc _).alloc _) _ _ rfl ⟨_, rd_one2 w1 _ (.int .u64 7) 27⟩ (one_int _ _) (room1 hroom) (room8b hroom) (by simp; omega) ?_; intro v1 w2 hown1 hg1 hb1; obtain ⟨pv1, cv1, rfl, _⟩ := own_slice hown1; obtain ⟨k0, kf, hr1⟩ := Vr.put (x := 7) (unhide HV) (unhide HM) (unhide HX).1 (unhide HX).2 hown1 hg1 hb1; simp only [List.length_cons, List.length_nil, Nat.zero_add] at hr1; have c0 := hr1.c0; have c1 := hr1.c1; have cf := hr1.fz; have HR1 := hide hr1; clear hown1 hg1 hb1 hr1))
  go_cut [] (fun wx => Ready w1.heap.size w wx)
  case first =>
    by_cases h2 : vs.length < 200
    · have h2i : ¬ (200 : Int) < (vs.length : Int) + 1 := by omega
      go_wp2_with fail
      go_meet
      refine ⟨pv1, pM, cv1, cM, vs ++ [7], ms, ?_, unhide HFA h2, by simp⟩
      have e : (vs ++ [7]).length = vs.length + 1 := by simp
      rw [e]
      exact unhide HR1
    · have h2i : (200 : Int) < (vs.length : Int) + 1 := by omega
      have h2e : vs.length = 200 := by omega
      have HFC := hide (unhide HFB h2e)
      obtain ⟨b, o, hpe, hq1, hq2⟩ := (unhide HR1).rV.at 0 _ (U64_at (vs ++ [7]) 0 (by simp))
      subst hpe
      clear hq1 hq2
      have hr2 := (unhide HR1).cut (by simp)
      have d1 := hr2.c1
      have df := hr2.fz
      have hr3 := hr2.setM (M' := .slice none 0 0) (ms' := []) (Rd.nil _ _) (by intro g hg; cases hg)
      have HR2 := hide hr3
      clear hr2 hr3 h2e
      go_wp2_with fail
      go_meet
      refine ⟨some ⟨b, o + 1, none⟩, none, cv1 - 1, 0, (vs ++ [7]).tail, [], ?_, unhide HFC, by simp; omega⟩
      have e : (vs ++ [7]).tail.length = vs.length := by simp
      rw [e]
      exact unhide HR2
  case rest =>
    obtain ⟨pU, qU, cU, dU, us, ns, hr2, hfit, hn1⟩ := hcut
    clear HFA HFB HR1 HV HM HX HMD c0 c1 cf hroom hvl k0 kf
    have hn2 := hfit.len
    have hm2 : ns.length ≤ 200 := Nat.le_trans hfit.mlen hfit.len
    have c0 := hr2.c0
    have c1 := hr2.c1
    have HR2 := hide hr2
    have HF := hide hfit
    clear hr2 hfit
    generalize hnn : us.length = nn at *
    generalize hmm : ns.length = mm at *
    have HNN := hide (And.intro hnn hmm)
    clear hnn hmm
    obtain ⟨kl, hkl, hpl⟩ := kpick_fix at' nn hn1 (by omega) hat
    obtain ⟨kr, hkr, hpr⟩ := kpick_fix pp (nn + 2) (by omega) (by omega) hpp
    rw [show ((nn + 2 : Nat) : Int) = (nn : Int) + 2 from by omega] at hpr
    have HPL := hide hpl
    have HPR := hide hpr
    clear hpl hpr hat hpp hfew
    go_wp2_with (go_at_call 12; go_loud (refine (kbuilt_any _ _ _ _ us _ _ _ ns _ (unhide HR2).rV (unhide HR2).rM (Nat.le_refl _) (unhide HF) ((unhide HT).below (unhide HR2).bel (unhide HT).1)).mono ?_; rintro e w4 ⟨X, rfl, hask, hb4⟩; have hr4 := (unhide HR2).later hb4; have e0 := hr4.c0; have e1 := hr4.c1; have HR4 := hide hr4; have HASK := hide hask; clear hask hb4 hr4))
    refine (ktold_any X us ns w4 (unhide HASK)).mono ?_
    rintro e w5 ⟨V2, M2, rfl, ho5, hp5, hb5⟩
    rw [(unhide HNN).1] at ho5
    rw [(unhide HNN).2] at hp5
    obtain ⟨pW, cW, rfl, _⟩ := own_slice ho5
    obtain ⟨pN, cN, rfl, _⟩ := own_slice hp5
    have hb6 := bel_trans hb5 (alloc_bel w5 (.cells #[.slice pW nn cW, .slice pN mm cN] 25))
    have hr6 := (unhide HR4).later hb6
    have f0 := hr6.c0
    have f1 := hr6.c1
    have g0 := box5 w5 #[.slice pW nn cW, .slice pN mm cN] 25 0 _ rfl
    have g1 := box5 w5 #[.slice pW nn cW, .slice pN mm cN] 25 1 _ rfl
    have HAL := hide (kalike_any _ pU nn cU qU mm dU pW cW pN cN us ns _ hr6.rV hr6.rM (Rd.owned (ho5.alloc _)) (Rd.owned (hp5.alloc _)) (Nat.le_refl _) (by omega) (by omega))
    have HR6 := hide hr6
    have HA6 := hide ((unhide HASK).later hb6)
    clear hr6 ho5 hp5 hb5 hb6 HR4 HASK c0 c1 e0 e1
    go_wp2_with fail
    refine (unhide HAL).mono ?_
    rintro e w7 ⟨rfl, hb7⟩
    have hr7 := (unhide HR6).later hb7
    have d0 := hr7.c0
    have d1 := hr7.c1
    have HR7 := hide hr7
    have HA7 := hide ((unhide HA6).later hb7)
    clear hr7 hb7 HR6 HA6 HAL f0 f1 g0 g1
    go_wp2_with fail
    refine at_same (unhide HPL _) ?_
    have hkn : kl < us.length := by rw [(unhide HNN).1]; exact hkl
    obtain ⟨b, o, hp1, _, q1⟩ := (unhide HR7).rV.at kl _ (U64_at us kl hkn)
    subst hp1
    have hxb := (unhide HF).big _ (List.getElem_mem hkn)
    have HK1 := hide (Sp.rank_here us us[kl] kl (by omega))
    have HK2 := hide (Sp.select_back hkn)
    have HK3 : Hid (Sp.RankRes us us[kl] (nn : Int) ((us.count us[kl] : Nat) : Int) 0) := by rw [← (unhide HNN).1]; exact Sp.rank_all us us[kl]
    have HK4 := hide (Sp.select_none us us[kl])
    have hlt := Sp.rank_lt hkn
    have hc200 : us.count us[kl] ≤ 200 := Nat.le_trans List.count_le_length (by have := (unhide HNN).1; omega)
    generalize us[kl] = x at *
    generalize (us.take kl).count x = ra at *
    generalize us.count x = rb at *
    clear hkn
    go_wp2_with fail
    refine (rank_any X us ns x (kl : Int) w7 (unhide HA7) hxb).mono ?_
    rintro e w8 ⟨a1, a2, rfl, hres, hb8⟩
    obtain ⟨e1, e2⟩ := hres.uniq (unhide HK1)
    subst e1
    subst e2
    clear hres
    go_wp2_with fail
    refine (select_any X us ns x (ra : Int) w8 ((unhide HA7).later hb8) hxb (by omega)).mono ?_
    rintro e w9 ⟨a1, a2, rfl, hres, hb9⟩
    obtain ⟨e1, e2⟩ := hres.uniq (unhide HK2)
    subst e1
    subst e2
    have HB9 := hide (bel_trans hb8 hb9)
    clear hres hb8 hb9
    go_wp2_with fail
    refine (rank_any X us ns x (nn : Int) w9 ((unhide HA7).later (unhide HB9)) hxb).mono ?_
    rintro e w10 ⟨a1, a2, rfl, hres, hb10⟩
    obtain ⟨e1, e2⟩ := hres.uniq (unhide HK3)
    subst e1
    subst e2
    have HB10 := hide (bel_trans (unhide HB9) hb10)
    clear hres hb10 HB9
    go_wp2_with fail
    refine (select_any X us ns x (rb : Int) w10 ((unhide HA7).later (unhide HB10)) hxb (by omega)).mono ?_
    rintro e w11 ⟨a1, a2, rfl, hres, hb11⟩
    obtain ⟨e1, e2⟩ := hres.uniq (unhide HK4)
    subst e1
    subst e2
    have HB11 := hide (bel_trans (unhide HB10) hb11)
    clear hres hb11 HB10 HK1 HK2 HK3 HK4
    have hd1 : decide (rb ≤ ra) = false := decide_eq_false (by omega)
    have hd2 : decide ((rb : Int) ≤ (ra : Int)) = false := decide_eq_false (by omega)
    go_wp2_with fail
    clear hd1 hd2 hlt hc200
    refine at_same (unhide HPR _) ?_
    have hP1 : -1 ≤ (kr : Int) - 1 := by omega
    have hP2 : (kr : Int) - 1 ≤ 300 := by omega
    have HA11 := hide ((unhide HA7).later (unhide HB11))
    have HR11 := hide ((unhide HR7).later (unhide HB11))
    clear HA7 HR7 HB11 d0 d1 q1 HPL HPR hkr hxb
    go_wp2_with fail
    generalize (kr : Int) - 1 = P at *
    refine (askBefore_any X us ns P w11 (unhide HA11)).mono ?_
    rintro e w12 ⟨b1, b2, rfl, hresB, hb12⟩
    have HBE := hide hresB
    clear hresB
    go_wp2_with fail
    refine (askAfter_any X us ns P w12 ((unhide HA11).later hb12)).mono ?_
    rintro e w13 ⟨a1, a2, rfl, hresA, hb13⟩
    have HAE := hide hresA
    have hr13 := (unhide HR11).later (bel_trans hb12 hb13)
    have c1 := hr13.c1
    have HRD := hide hr13.rM
    have HBL := hide hr13.bel
    have HMLT : Hid (∀ x ∈ ns, x < nn) := by rw [Hid, ← (unhide HNN).1]; exact (unhide HF).mlt
    have HRI := hide (unhide HF).rises
    clear hresA hr13 hb12 hb13 HR11 HA11 hkl
    go_wp2
    go_loopw [32, 33] (fun ww ii wr => ∃ (k : Nat) (v : Int), k ≤ mm ∧ ii = .int .i64 (k : Nat) ∧ ww = .int .i64 v ∧ WantB (ns.take k) P v ∧ w13 = wr) (fun _ ii _ => mm - (intOf ii).toNat)
    case atStart => exact ⟨0, -1, Nat.zero_le _, rfl, rfl, Or.inl ⟨rfl, by simp⟩, rfl⟩
    case round =>
      obtain ⟨k, v, hk, rfl, rfl, hw, rfl⟩ := hrel
      by_cases hlt : k < mm
      · have hkl : k < ns.length := by rw [(unhide HNN).2]; exact hlt
        obtain ⟨b9, o9, hp9, _, q9⟩ := (unhide HRD).at k _ (NI_at ns k hkl)
        subst hp9
        have HY := hide (fun h => WantB.yes (unhide HRI) hkl hw h)
        have HNO := hide (fun h => WantB.no hkl hw h)
        have hz := unhide HMLT _ (List.getElem_mem hkl)
        clear hw
        generalize ns[k] = z at *
        clear hkl
        by_cases hz2 : (z : Int) ≤ P
        · have HW := hide (unhide HY hz2)
          clear HY HNO
          go_wp2
          go_roundw
          case rel => exact ⟨k + 1, _, by omega, by go_num, rfl, unhide HW, trivial⟩
          case measure => simp [intOf]; omega
        · have HW := hide (unhide HNO hz2)
          clear HY HNO
          go_wp2
          go_roundw
          case rel => exact ⟨k + 1, _, by omega, by go_num, rfl, unhide HW, trivial⟩
          case measure => simp [intOf]; omega
      · have he : mm = k := by omega
        subst he
        have htk : ns.take mm = ns := List.take_of_length_le (by rw [(unhide HNN).2]; exact Nat.le_refl _)
        rw [htk] at hw
        have hvr := hw.range (unhide HMLT)
        have HWB := hide (hw.meets (unhide HBE))
        have HTD : Hid (ns.drop mm = []) := List.drop_of_length_le (by rw [(unhide HNN).2]; exact Nat.le_refl _)
        clear hw htk hlt hk HBE
        go_wp2
        go_loopw [34, 35] (fun ww ii wr => ∃ (k : Nat) (v : Int), k ≤ mm ∧ ii = .int .i64 ((k : Int) - 1) ∧ ww = .int .i64 v ∧ WantA (ns.drop k) P v ∧ w13 = wr) (fun _ ii _ => (intOf ii + 1).toNat)
        case atStart => exact ⟨mm, -1, Nat.le_refl _, rfl, rfl, Or.inl ⟨rfl, by rw [unhide HTD]; simp⟩, rfl⟩
        case round =>
          obtain ⟨k, v2, hk, rfl, rfl, hw, rfl⟩ := hrel
          cases k with
          | succ k =>
            have hlt : k < mm := by omega
            rw [show (((k + 1 : Nat) : Int) - 1) = (k : Int) from by omega]
            have hkl : k < ns.length := by rw [(unhide HNN).2]; exact hlt
            obtain ⟨b9, o9, hp9, _, q9⟩ := (unhide HRD).at k _ (NI_at ns k hkl)
            subst hp9
            have HY := hide (fun h => WantA.yes (unhide HRI) hkl hw h)
            have HNO := hide (fun h => WantA.no hkl hw h)
            have hz := unhide HMLT _ (List.getElem_mem hkl)
            clear hw hk
            generalize ns[k] = z at *
            clear hkl
            by_cases hz2 : P ≤ (z : Int)
            · have HW := hide (unhide HY hz2)
              clear HY HNO
              go_wp2
              go_roundw
              case rel => exact ⟨k, _, by omega, rfl, rfl, unhide HW, trivial⟩
              case measure => simp [intOf]
            · have HW := hide (unhide HNO hz2)
              clear HY HNO
              go_wp2
              go_roundw
              case rel => exact ⟨k, _, by omega, rfl, rfl, unhide HW, trivial⟩
              case measure => simp [intOf]
          | zero =>
            rw [List.drop_zero] at hw
            have hvr2 := hw.range (unhide HMLT)
            have hWA := hw.meets (unhide HAE)
            have hWB := unhide HWB
            rw [show (((0 : Nat) : Int) - 1) = -1 from by omega]
            clear hw hk HAE HWB HTD HRI HMLT HRD HNN
            rcases hWB with ⟨g1, rfl, rfl⟩ | ⟨g1, rfl, rfl⟩
            · have gd : decide (0 ≤ b1) = true := decide_eq_true g1
              rcases hWA with ⟨h1, rfl, rfl⟩ | ⟨h1, rfl, rfl⟩
              · have hd : decide (0 ≤ a1) = true := decide_eq_true h1
                go_wp2
                go_ret
                exact ⟨rfl, unhide HBL⟩
              · have hd : decide (0 ≤ v2) = false := decide_eq_false (by omega)
                have hd2 : decide (v2 < 0) = true := decide_eq_true h1
                go_wp2
                go_ret
                exact ⟨rfl, unhide HBL⟩
            · have gd : decide (0 ≤ v) = false := decide_eq_false (by omega)
              have gd2 : decide (v < 0) = true := decide_eq_true g1
              rcases hWA with ⟨h1, rfl, rfl⟩ | ⟨h1, rfl, rfl⟩
              · have hd : decide (0 ≤ a1) = true := decide_eq_true h1
                go_wp2
                go_ret
                exact ⟨rfl, unhide HBL⟩
              · have hd : decide (0 ≤ v2) = false := decide_eq_false (by omega)
                have hd2 : decide (v2 < 0) = true := decide_eq_true h1
                go_wp2
                go_ret
                exact ⟨rfl, unhide HBL⟩
end Kp
end Go.Proofs.YtolkjadklbchfaaDoor
