import Derived.Test.YtolkjadklbchfaaDoorD5
import Derived.Test.YtolkjadklbchfaaDoorF1
import Derived.Test.YtolkjadklbchfaaDoorD1
import Derived.Deep.DeepCutAuto
/- Walks of the keeps: Firm. -/
open Go Go.RowKit
namespace Go.Proofs.YtolkjadklbchfaaDoor
namespace Kp
open Mem Rf Pr Ld

set_option maxHeartbeats 400000 in
theorem kpick_far (c : Int) (hc : -9223372036854775808 ≤ c ∧ c ≤ 9223372036854775807) :
    ∃ k : Nat, k < 1099511627776 ∧ ∀ w : World, Calls Tryd.prog 15 #[.int .i64 c, .int .i64 1099511627776] w fun e w' => e = .returned (.int .i64 k) ∧ w' = w := by
  by_cases h0 : c < 0
  · obtain ⟨k, hk, he⟩ := tmod_nn (a := -(c + 1)) (n := 1099511627776) (by omega) (by omega)
    rw [Int.neg_tmod] at he
    refine ⟨k, hk, fun w => ?_⟩
    have HE := hide he
    clear he
    go_enter Tryd.func15, Tryd.ntmps15
    go_wp2
    go_ret
    exact ⟨ret_int (unhide HE), rfl⟩
  · obtain ⟨k, hk, he⟩ := tmod_nn (a := c) (n := 1099511627776) (by omega) (by omega)
    rw [Int.tmod_eq_emod_of_nonneg (by omega)] at he
    refine ⟨k, hk, fun w => ?_⟩
    have HE := hide he
    clear he
    go_enter Tryd.func15, Tryd.ntmps15
    go_wp2
    go_ret
    exact ⟨ret_int (unhide HE), rfl⟩

theorem set_lt {d : List Nat} (h : ∀ x ∈ d, x < 256) (i v : Nat) (hv : v < 256) : ∀ x ∈ d.set i v, x < 256 := by
  intro x hx
  rcases List.mem_or_eq_of_mem_set hx with h1 | h1
  · exact h x h1
  · rw [h1]; exact hv
/-- What is refused by the questions. -/
theorem access_no (X : Nat) (vs ms : List Nat) (i : Int) (w : World) (h : Pr.Ask w X vs ms) (hi : -9223372036854775808 ≤ i ∧ i ≤ 9223372036854775807) (hn : i < 0 ∨ (vs.length : Int) ≤ i) :
    Calls Tryd.prog 32 #[.pointer (some ⟨X, 0, none⟩), .int .i64 i] w fun e w' => e = .returned (.tuple #[.int .u64 0, .int .i64 3]) ∧ Below w.heap.size w w' := by
  refine (access_any X vs ms i w h hi).mono ?_
  rintro e w' ⟨a, f, rfl, hres, hb⟩
  obtain ⟨rfl, rfl⟩ := hres.uniq (b := 0) (f := 3) (.inl ⟨hn, rfl, rfl⟩)
  exact ⟨rfl, hb⟩
theorem least_no (X : Nat) (vs ms : List Nat) (l r : Int) (w : World) (h : Pr.Ask w X vs ms) (hn : ¬ Sp.IsPart vs l r) :
    Calls Tryd.prog 20 #[.pointer (some ⟨X, 0, none⟩), .int .i64 l, .int .i64 r] w fun e w' => e = .returned (.tuple #[.int .i64 0, .int .i64 3]) ∧ Below w.heap.size w w' := by
  refine (least_any X vs ms l r w h).mono ?_
  rintro e w' ⟨a, f, rfl, hres, hb⟩
  obtain ⟨rfl, rfl⟩ := hres.uniq (b := 0) (f := 3) (.inl ⟨hn, rfl, rfl⟩)
  exact ⟨rfl, hb⟩
theorem nth_no (X : Nat) (vs ms : List Nat) (l r k : Int) (w : World) (h : Pr.Ask w X vs ms) (hn : ¬ Sp.IsPart vs l r) :
    Calls Tryd.prog 22 #[.pointer (some ⟨X, 0, none⟩), .int .i64 l, .int .i64 r, .int .i64 k] w fun e w' => e = .returned (.tuple #[.int .u64 0, .int .i64 3]) ∧ Below w.heap.size w w' := by
  refine (nth_any X vs ms l r k w h).mono ?_
  rintro e w' ⟨a, f, rfl, hres, hb⟩
  obtain ⟨rfl, rfl⟩ := hres.uniq (b := 0) (f := 3) (.inl ⟨hn, rfl, rfl⟩)
  exact ⟨rfl, hb⟩
theorem nth_ord (X : Nat) (vs ms : List Nat) (l r k : Int) (w : World) (h : Pr.Ask w X vs ms) (hp : Sp.IsPart vs l r) (hn : ¬ (0 ≤ k ∧ k < r - l)) :
    Calls Tryd.prog 22 #[.pointer (some ⟨X, 0, none⟩), .int .i64 l, .int .i64 r, .int .i64 k] w fun e w' => e = .returned (.tuple #[.int .u64 0, .int .i64 4]) ∧ Below w.heap.size w w' := by
  refine (nth_any X vs ms l r k w h).mono ?_
  rintro e w' ⟨a, f, rfl, hres, hb⟩
  obtain ⟨rfl, rfl⟩ := hres.uniq (b := 0) (f := 4) (.inr (.inl ⟨hp, hn, rfl, rfl⟩))
  exact ⟨rfl, hb⟩
theorem count_no (X : Nat) (vs ms : List Nat) (l r : Int) (lo hi : Nat) (w : World) (h : Pr.Ask w X vs ms) (hlo : lo < 18446744073709551616) (hhi : hi < 18446744073709551616) (hn : ¬ Sp.IsPart vs l r) :
    Calls Tryd.prog 21 #[.pointer (some ⟨X, 0, none⟩), .int .i64 l, .int .i64 r, .int .u64 (lo : Nat), .int .u64 (hi : Nat)] w fun e w' => e = .returned (.tuple #[.int .i64 0, .int .i64 3]) ∧ Below w.heap.size w w' := by
  refine (count_any X vs ms l r lo hi w h hlo hhi).mono ?_
  rintro e w' ⟨a, f, rfl, hres, hb⟩
  obtain ⟨rfl, rfl⟩ := hres.uniq (b := 0) (f := 3) (.inl ⟨hn, rfl, rfl⟩)
  exact ⟨rfl, hb⟩
theorem count_ord (X : Nat) (vs ms : List Nat) (l r : Int) (lo hi : Nat) (w : World) (h : Pr.Ask w X vs ms) (hlo : lo < 18446744073709551616) (hhi : hi < 18446744073709551616) (hp : Sp.IsPart vs l r) (hn : hi < lo) :
    Calls Tryd.prog 21 #[.pointer (some ⟨X, 0, none⟩), .int .i64 l, .int .i64 r, .int .u64 (lo : Nat), .int .u64 (hi : Nat)] w fun e w' => e = .returned (.tuple #[.int .i64 0, .int .i64 4]) ∧ Below w.heap.size w w' := by
  refine (count_any X vs ms l r lo hi w h hlo hhi).mono ?_
  rintro e w' ⟨a, f, rfl, hres, hb⟩
  obtain ⟨rfl, rfl⟩ := hres.uniq (b := 0) (f := 4) (.inr (.inl ⟨hp, hn, rfl, rfl⟩))
  exact ⟨rfl, hb⟩
theorem rank_no (X : Nat) (vs ms : List Nat) (v : Nat) (i : Int) (w : World) (h : Pr.Ask w X vs ms) (hv : v < 18446744073709551616) (hn : i < 0 ∨ (vs.length : Int) < i) :
    Calls Tryd.prog 16 #[.pointer (some ⟨X, 0, none⟩), .int .u64 (v : Nat), .int .i64 i] w fun e w' => e = .returned (.tuple #[.int .i64 0, .int .i64 3]) ∧ Below w.heap.size w w' := by
  refine (rank_any X vs ms v i w h hv).mono ?_
  rintro e w' ⟨a, f, rfl, hres, hb⟩
  obtain ⟨rfl, rfl⟩ := hres.uniq (b := 0) (f := 3) (.inl ⟨hn, rfl, rfl⟩)
  exact ⟨rfl, hb⟩
theorem select_no (X : Nat) (vs ms : List Nat) (v : Nat) (k : Int) (w : World) (h : Pr.Ask w X vs ms) (hv : v < 18446744073709551616) (hn : k < 0) :
    Calls Tryd.prog 17 #[.pointer (some ⟨X, 0, none⟩), .int .u64 (v : Nat), .int .i64 k] w fun e w' => e = .returned (.tuple #[.int .i64 0, .int .i64 4]) ∧ Below w.heap.size w w' := by
  refine (select_any X vs ms v k w h hv (by omega)).mono ?_
  rintro e w' ⟨a, f, rfl, hres, hb⟩
  obtain ⟨rfl, rfl⟩ := hres.uniq (b := 0) (f := 4) (.inl ⟨hn, rfl, rfl⟩)
  exact ⟨rfl, hb⟩
theorem before_no (X : Nat) (vs ms : List Nat) (p : Int) (w : World) (h : Pr.Ask w X vs ms) (hn : p < 0) :
    Calls Tryd.prog 18 #[.pointer (some ⟨X, 0, none⟩), .int .i64 p] w fun e w' => e = .returned (.tuple #[.int .i64 0, .int .i64 5]) ∧ Below w.heap.size w w' := by
  refine (askBefore_any X vs ms p w h).mono ?_
  rintro e w' ⟨a, f, rfl, hres, hb⟩
  obtain ⟨rfl, rfl⟩ := hres.uniq (b := 0) (f := 5) (.inl ⟨fun x _ => by omega, rfl, rfl⟩)
  exact ⟨rfl, hb⟩
theorem after_no (X : Nat) (vs ms : List Nat) (p : Int) (w : World) (h : Pr.Ask w X vs ms) (hn : (vs.length : Int) ≤ p) :
    Calls Tryd.prog 19 #[.pointer (some ⟨X, 0, none⟩), .int .i64 p] w fun e w' => e = .returned (.tuple #[.int .i64 0, .int .i64 5]) ∧ Below w.heap.size w w' := by
  refine (askAfter_any X vs ms p w h).mono ?_
  rintro e w' ⟨a, f, rfl, hres, hb⟩
  obtain ⟨rfl, rfl⟩ := hres.uniq (b := 0) (f := 5) (.inl ⟨fun x hx => by have := h.fit.mlt x hx; omega, rfl, rfl⟩)
  exact ⟨rfl, hb⟩

set_option maxHeartbeats 4000000 in
set_option maxRecDepth 100000 in
theorem kfirm_any (B : Nat) (p : Option Addr) (n c : Nat) (xs : List Nat) (q : Option Addr) (m d : Nat) (ys : List Int) (few far : Int) (w : World) (hv : Rd B w (.slice p n c) (U64 xs)) (hy : Rd B w (.slice q m d) (I64 ys)) (hB : B ≤ w.heap.size) (hbig : ∀ x ∈ xs, x < 18446744073709551616) (hn : n ≤ 17592186044000)
    (hfew : -9223372036854775808 ≤ few ∧ few ≤ 9223372036854775807) (hfar : -9223372036854775808 ≤ far ∧ far ≤ 9223372036854775807) (hT : Tab w) (hU : Bru w) :
    Calls Tryd.prog 9 #[.slice p n c, .slice q m d, .int .i64 few, .int .i64 far] w fun e w' => e = .returned (.bool true) ∧ Below w.heap.size w w' := by
  have HEN := hide (kencoded_any B p n c xs q m d ys few w hv hy hB hbig hn hfew hT hU)
  have HT := hide hT
  have HU := hide hU
  obtain ⟨i0, hi, hz0, hz1, hz2⟩ := info_parts Ty.u64
  have Hb : Hid (i0.bytes = 8) := hz2
  obtain ⟨fa, hfa, hpf⟩ := kpick_far far hfar
  have HPF := hide hpf
  clear hv hy hbig hT hU hfew hz2 hpf hfar
  go_enter Tryd.func9, Tryd.ntmps9
  go_wp2_with fail
  refine (unhide HEN).mono ?_
  rintro e w1 ⟨X, pV, cV, pM, cM, pb, cb, vs, ms, rfl, hask, rV, rM, oB, hb1⟩
  have hfit := hask.fit
  have hn2 := hfit.len
  have hm2 : ms.length ≤ 200 := Nat.le_trans hfit.mlen hfit.len
  have k0 := box5 w1 #[.slice pV vs.length cV, .slice pM ms.length cM] 25 0 _ rfl
  have HK : Hid (∀ w' : World, Below (w1.alloc (.cells #[.slice pV vs.length cV, .slice pM ms.length cM] 25)).heap.size (w1.alloc (.cells #[.slice pV vs.length cV, .slice pM ms.length cM] 25)) w' → w'.cell? ⟨w1.heap.size, 0, none⟩ = some (.slice pV vs.length cV) ∧ Rd w'.heap.size w' (.slice pV vs.length cV) (U64 vs) ∧ Rd w'.heap.size w' (.slice pb (Sp.encode vs ms).length cb) (By (Sp.encode vs ms)) ∧ Pr.Ask w' X vs ms ∧ Below w.heap.size w w') := by
    intro w' hb
    have hb2 := bel_trans (alloc_bel w1 _) hb
    exact ⟨later_cell k0 hb, (rV.below hb2).mono hb2.size, ((Rd.owned oB).below hb2).mono hb2.size, hask.later hb2, bel_trans hb1 hb2⟩
  have HF := hide hfit
  generalize hnn : vs.length = nn at *
  generalize hmm : ms.length = mm at *
  have HNN := hide (And.intro hnn hmm)
  clear hnn hmm hask rV rM oB hb1 hfit HEN
  obtain ⟨mk, hmk⟩ : ∃ mk : Nat, mk = 201 + fa % 100 := ⟨_, rfl⟩
  have hmk1 : 200 < mk ∧ mk < 301 := by omega
  obtain ⟨hmk1, hmk2⟩ := hmk1
  have HMK := hide hmk
  clear hmk
  go_wp2_with fail
  refine at_same (unhide HPF _) ?_
  generalize w1.alloc (.cells #[.slice pV nn cV, .slice pM mm cM] 25) = wa at *
  go_wp2_with (first
   | (at_make; (refine wpList_make_full _ rfl (.tmp 75) (.tmp 75) 22 rfl wa.heap.size 27 i0 (.int .u64 0) 1 Tryd.underlying22 hi hz0 hz1 .i64 .i64 _ _ mk rfl rfl (by rw [unhide HMK]; go_num) (by rw [unhide HMK]; go_num) (by rw [Hb.out]; omega) (by unfold maxLen; omega) (Nat.le_refl _) ?_); intro w2 hown2 hg2; have hb2 : Below wa.heap.size wa w2 := (Below.refl _ _).grown hg2 (Nat.le_refl _) (by intro k hk; cases hk); have HB2 := hide hb2; clear hown2 hg2 hb2))
  refine at_same (build_long _ mk mk _ _ (by omega) hmk1) ?_
  have hb3 := bel_trans (unhide HB2) (alloc_bel w2 (.cells #[.int .i64 (-1)] 3))
  obtain ⟨k3, r3, _, _, _⟩ := unhide HK _ hb3
  have HC3 := hide (kcopied_any pV _ nn cV vs _ r3 (by omega))
  have HB3 := hide hb3
  clear r3 hb3 k0 HB2
  generalize w2.alloc (.cells #[.int .i64 (-1)] 3) = w3 at *
  go_wp2_with fail
  refine (unhide HC3).mono ?_
  rintro e w4 ⟨v4, rfl, ho4, hb4⟩
  rw [(unhide HNN).1] at ho4
  obtain ⟨p4, c4, rfl, _⟩ := own_slice ho4
  have HB4 := hide (bel_trans (unhide HB3) hb4)
  clear ho4 hb4 HC3 HB3
  go_wp2_with fail
  refine at_same (build_bad p4 nn c4 _ _ 1 1 [(nn : Int)] _ (Rd.one w4 (.int .i64 (nn : Int)) 3) (by omega) hn2 (by simp [Sp.upTo])) ?_
  have HB5 := hide (bel_trans (unhide HB4) (alloc_bel w4 (.cells #[.int .i64 (nn : Int)] 3)))
  clear HB4 k3
  generalize w4.alloc (.cells #[.int .i64 (nn : Int)] 3) = w5 at *
  go_wp2_with (first
   | (at_make; (refine wpList_make_full _ rfl (.const (.int .i64 3)) (.const (.int .i64 3)) 22 rfl w5.heap.size 27 i0 (.int .u64 0) 1 Tryd.underlying22 hi hz0 hz1 .i64 .i64 _ _ 3 rfl rfl rfl rfl (by rw [Hb.out]; omega) (by unfold maxLen; omega) (Nat.le_refl _) ?_); intro w6 hown6 hg6; have hb6 : Below w5.heap.size w5 w6 := (Below.refl _ _).grown hg6 (Nat.le_refl _) (by intro k hk; cases hk); have HB6 := hide (bel_trans (unhide HB5) hb6); clear hown6 hg6 hb6))
  refine at_same (build_bad _ 3 _ _ _ 2 2 [1, 1] _ (Rd.lit w6 [.int .i64 1, .int .i64 1] 3) (by omega) (by omega) (by decide)) ?_
  have HB7 := hide (bel_trans (unhide HB6) (alloc_bel w6 (.cells #[.int .i64 1, .int .i64 1] 3)))
  clear HB5 HB6
  generalize w6.alloc (.cells #[.int .i64 1, .int .i64 1] 3) = w7 at *
  go_wp2_with (first
   | (at_make; (refine wpList_make_full _ rfl (.const (.int .i64 3)) (.const (.int .i64 3)) 22 rfl w7.heap.size 27 i0 (.int .u64 0) 1 Tryd.underlying22 hi hz0 hz1 .i64 .i64 _ _ 3 rfl rfl rfl rfl (by rw [Hb.out]; omega) (by unfold maxLen; omega) (Nat.le_refl _) ?_); intro w8 hown8 hg8; have hb8 : Below w7.heap.size w7 w8 := (Below.refl _ _).grown hg8 (Nat.le_refl _) (by intro k hk; cases hk); have HB8 := hide (bel_trans (unhide HB7) hb8); clear hown8 hg8 hb8))
  have hup : Sp.upTo 3 0 [-1 - (fa : Int)] = false := by
    simp [Sp.upTo]
    omega
  refine at_same (build_bad _ 3 _ _ _ 1 1 [-1 - (fa : Int)] _ (Rd.one w8 (.int .i64 (-1 - (fa : Int))) 3) (by omega) (by omega) hup) ?_
  clear hup
  have HB9 := hide (bel_trans (unhide HB8) (alloc_bel w8 (.cells #[.int .i64 (-1 - (fa : Int))] 3)))
  clear HB7 HB8
  generalize w8.alloc (.cells #[.int .i64 (-1 - (fa : Int))] 3) = w9 at *
  go_wp2
  have HBP := hide (bel_trans (unhide HB9) (alloc_bel w9 (.cells #[.int .i64 (-1 - (fa : Int)), .int .i64 ((nn : Int) + (fa : Int))] 3)))
  have HPL : Hid (∀ (w' : World) (i : Nat), i < 2 → Below (w9.alloc (.cells #[.int .i64 (-1 - (fa : Int)), .int .i64 ((nn : Int) + (fa : Int))] 3)).heap.size (w9.alloc (.cells #[.int .i64 (-1 - (fa : Int)), .int .i64 ((nn : Int) + (fa : Int))] 3)) w' → ∃ pp : Int, w'.cell? ⟨w9.heap.size, i, none⟩ = some (.int .i64 pp) ∧ (pp < 0 ∨ (nn : Int) ≤ pp) ∧ -1099511627777 ≤ pp ∧ pp ≤ 1099511628777) := by
    intro w' i hi2 hb
    match i, hi2 with
    | 0, _ => exact ⟨-1 - (fa : Int), later_cell (box5 w9 _ _ 0 _ rfl) hb, by omega, by omega, by omega⟩
    | 1, _ => exact ⟨(nn : Int) + (fa : Int), later_cell (box5 w9 _ _ 1 _ rfl) hb, by omega, by omega, by omega⟩
  clear HB9
  generalize hwp : w9.alloc (.cells #[.int .i64 (-1 - (fa : Int)), .int .i64 ((nn : Int) + (fa : Int))] 3) = wp at *
  clear hwp
  go_loopw [23] (fun ii wr => ∃ i : Nat, i ≤ 2 ∧ ii = .int .i64 i ∧ Below wp.heap.size wp wr) (fun ii _ => 2 - (intOf ii).toNat)
  case atStart => exact ⟨0, by omega, rfl, Below.refl _ _⟩
  case round =>
    obtain ⟨i, hi2, rfl, hbr⟩ := hrel
    by_cases hlt : i < 2
    · as_aux_lemma =>
        obtain ⟨pp, hcp, hpn, hp1, hp2⟩ := unhide HPL wr i hlt hbr
        obtain ⟨_, _, _, hx0, _⟩ := unhide HK _ (bel_trans (unhide HBP) hbr)
        have hno : ¬ Sp.IsPart vs pp (pp + 1) := by
          rintro ⟨h1, h2, _⟩
          rw [(unhide HNN).1] at h2
          omega
        have HA1 := hide (access_no X vs ms pp wr hx0 (by omega) (by rw [(unhide HNN).1]; exact hpn))
        have HA2 := hide (fun (w' : World) (hb : Below wr.heap.size wr w') => least_no X vs ms pp (pp + 1) w' (hx0.later hb) hno)
        have HA3 := hide (fun (w' : World) (hb : Below wr.heap.size wr w') => nth_no X vs ms pp (pp + 1) 0 w' (hx0.later hb) hno)
        have HA4 := hide (fun (w' : World) (hb : Below wr.heap.size wr w') => count_no X vs ms pp (pp + 1) 0 9 w' (hx0.later hb) (by omega) (by omega) hno)
        have HBR := hide hbr
        clear hx0 hno hbr hpn
        go_wp2_with fail
        refine (unhide HA1).mono ?_
        rintro e v1 ⟨rfl, hb1⟩
        have HB1 := hide hb1
        clear hb1 HA1
        go_wp2_with fail
        refine (unhide HA2 _ (unhide HB1)).mono ?_
        rintro e v2 ⟨rfl, hb2⟩
        have HB2 := hide (bel_trans (unhide HB1) hb2)
        clear hb2 HA2 HB1
        go_wp2_with fail
        refine (unhide HA3 _ (unhide HB2)).mono ?_
        rintro e v3 ⟨rfl, hb3⟩
        have HB3 := hide (bel_trans (unhide HB2) hb3)
        clear hb3 HA3 HB2
        go_wp2_with fail
        refine (unhide HA4 _ (unhide HB3)).mono ?_
        rintro e v4 ⟨rfl, hb4⟩
        have HB4 := hide (bel_trans (unhide HB3) hb4)
        clear hb4 HA4 HB3
        go_wp2
        go_roundw
        case rel => exact ⟨i + 1, by omega, by go_num, bel_trans (unhide HBR) (unhide HB4)⟩
        case measure => simp [intOf]; omega
    · have he : i = 2 := by omega
      subst he
      have hbq := bel_trans (unhide HBP) hbr
      obtain ⟨_, _, _, hx0, _⟩ := unhide HK _ hbq
      have hnn := (unhide HNN).1
      have HA1 := hide (rank_no X vs ms 0 ((nn : Int) + 1 + (fa : Int)) wr hx0 (by omega) (by rw [hnn]; omega))
      have HA2 := hide (fun (w' : World) (hb : Below wr.heap.size wr w') => select_no X vs ms 0 (-1 - (fa : Int)) w' (hx0.later hb) (by omega) (by omega))
      have HA3 := hide (fun (w' : World) (hb : Below wr.heap.size wr w') => least_no X vs ms 0 0 w' (hx0.later hb) (fun h => by have := h.2.2; omega))
      have HA4 := hide (fun (w' : World) (hb : Below wr.heap.size wr w') => before_no X vs ms (-1 - (fa : Int)) w' (hx0.later hb) (by omega))
      have HA5 := hide (fun (w' : World) (hb : Below wr.heap.size wr w') => after_no X vs ms ((nn : Int) + (fa : Int)) w' (hx0.later hb) (by rw [hnn]; omega))
      have HBQ := hide hbq
      clear hbr hbq hx0 hnn HPL HBP
      go_wp2_with fail
      refine (unhide HA1).mono ?_
      rintro e v1 ⟨rfl, hb1⟩
      have HB1 := hide hb1
      clear hb1 HA1
      go_wp2_with fail
      refine (unhide HA2 _ (unhide HB1)).mono ?_
      rintro e v2 ⟨rfl, hb2⟩
      have HB2 := hide (bel_trans (unhide HB1) hb2)
      clear hb2 HA2 HB1
      go_wp2_with fail
      refine (unhide HA3 _ (unhide HB2)).mono ?_
      rintro e v3 ⟨rfl, hb3⟩
      have HB3 := hide (bel_trans (unhide HB2) hb3)
      clear hb3 HA3 HB2
      go_wp2_with fail
      refine (unhide HA4 _ (unhide HB3)).mono ?_
      rintro e v4 ⟨rfl, hb4⟩
      have HB4 := hide (bel_trans (unhide HB3) hb4)
      clear hb4 HA4 HB3
      go_wp2_with fail
      refine (unhide HA5 _ (unhide HB4)).mono ?_
      rintro e v5 ⟨rfl, hb5⟩
      have HB5 := hide (bel_trans (unhide HBQ) (bel_trans (unhide HB4) hb5))
      clear hb5 HA5 HB4 HBQ
      go_upto_if 283 with fail
      go_cut [] (fun wx => Below wa.heap.size wa wx)
      case first =>
        by_cases h0 : 0 < nn
        · as_aux_lemma =>
            obtain ⟨_, _, _, hx5, _⟩ := unhide HK _ (unhide HB5)
            have hnn := (unhide HNN).1
            have hpt : Sp.IsPart vs 0 (nn : Int) := ⟨by omega, by rw [hnn]; omega, by omega⟩
            have HA1 := hide (nth_ord X vs ms 0 (nn : Int) ((nn : Int) + (fa : Int)) v5 hx5 hpt (by omega))
            have HA2 := hide (fun (w' : World) (hb : Below v5.heap.size v5 w') => count_ord X vs ms 0 (nn : Int) 5 4 w' (hx5.later hb) (by omega) (by omega) hpt (by omega))
            clear hx5 hnn hpt
            go_wp2_with fail
            refine (unhide HA1).mono ?_
            rintro e v6 ⟨rfl, hb6⟩
            have HB6 := hide hb6
            clear hb6 HA1
            go_wp2_with fail
            refine (unhide HA2 _ (unhide HB6)).mono ?_
            rintro e v7 ⟨rfl, hb7⟩
            have HB7 := hide (bel_trans (unhide HB5) (bel_trans (unhide HB6) hb7))
            clear hb7 HA2 HB6
            go_wp2
            go_meet
            exact unhide HB7
        · have he : nn = 0 := by omega
          subst he
          go_wp2
          go_meet
          exact unhide HB5
      case rest =>
        as_aux_lemma =>
          obtain ⟨_, _, rb, _, hbw⟩ := unhide HK _ hcut
          have hel := enc_len_small (unhide HF)
          have HEH := hide (enc_head (unhide HF)).1
          have HLT := hide (enc_lt vs ms (unhide HF))
          have HBC := hide hcut
          have HRB := hide rb
          clear hcut rb HB5
          obtain ⟨bb, oo, rfl, hq1, hq2⟩ := (unhide HRB).at 0 _ (By_at _ 0 (by omega))
          have hlc := (unhide HRB).len.2
          have hcb : 13 ≤ cb := by omega
          clear hq1 hq2
          go_wp2_with fail
          have HLD := hide (load_any wc.heap.size (some ⟨bb, oo, none⟩) 13 cb ((Sp.encode vs ms).take 13) wc (rd_front (unhide HRB) (by omega)) (Nat.le_refl _) (fun x hm => unhide HLT x (List.mem_of_mem_take hm)) (by omega) ((unhide HT).below hbw (unhide HT).1) ((unhide HU).below hbw (unhide HU).1))
          clear hbw HRB
          refine (unhide HLD).mono ?_
          rintro e w10 ⟨pv, f, rfl, hres, hb10⟩
          obtain ⟨rfl, rfl⟩ := res_head (firm_short _ 13 (by omega)) (by omega) hres
          have HBX := hide (bel_trans (unhide HBC) hb10)
          clear hres hb10 HLD HBC
          obtain ⟨_, _, rb, _, _⟩ := unhide HK _ (unhide HBX)
          have HCP := hide (kcopiedBytes_any _ _ _ cb _ w10 rb (by omega))
          clear rb
          go_wp2_with fail
          refine (unhide HCP).mono ?_
          rintro e w11 ⟨v11, rfl, ho11, hb11⟩
          obtain ⟨g11, d11, rfl, hgc11, hgb11, hgl11, _⟩ := own_form ho11 (by omega)
          have hcell11 := (ho11.cellAt 3 (by omega)).trans (By_at _ 3 (by omega))
          have hfz11 := ho11.frozenAt 3
          have hst11 := (ho11.stored 3 (.int .u8 ((66 : Nat) : Int))).1
          rw [← By_set] at hst11
          have hbs11 := bel_trans (unhide HBX) (hb11.setCell hgb11 (.int .u8 ((66 : Nat) : Int)) : Below w10.heap.size w10 (w11.setCell ⟨g11, 3, none⟩ (.int .u8 ((66 : Nat) : Int))))
          obtain ⟨_, _, _, _, hbw⟩ := unhide HK _ hbs11
          have HLD := hide (load_any _ (some ⟨g11, 0, none⟩) (Sp.encode vs ms).length d11 ((Sp.encode vs ms).set 3 66) (w11.setCell ⟨g11, 3, none⟩ (.int .u8 ((66 : Nat) : Int))) (Rd.owned hst11) (Nat.le_refl _) (set_lt (unhide HLT) 3 66 (by omega)) (by omega) ((unhide HT).below hbw (unhide HT).1) ((unhide HU).below hbw (unhide HU).1))
          have HBS := hide hbs11
          clear ho11 hb11 hgb11 hgl11 hst11 hbs11 hbw HCP HBX
          go_wp2_with fail
          refine (unhide HLD).mono ?_
          rintro e w12 ⟨pv, f, rfl, hres, hb12⟩
          obtain ⟨rfl, rfl⟩ := res_head (firm_magic (unhide HEH)) (by omega) hres
          have HBX := hide (bel_trans (unhide HBS) hb12)
          clear hres hb12 HLD HBS hcell11 hfz11
          obtain ⟨_, _, rb, hax, hbw⟩ := unhide HK _ (unhide HBX)
          have HCP := hide (kcopiedBytes_any _ _ _ cb _ w12 rb (by omega))
          clear rb hax hbw
          go_wp2_with fail
          refine (unhide HCP).mono ?_
          rintro e w13 ⟨v13, rfl, ho13, hb13⟩
          obtain ⟨g13, d13, rfl, hgc13, hgb13, hgl13, _⟩ := own_form ho13 (by omega)
          have hcell13 := (ho13.cellAt 4 (by omega)).trans (By_at _ 4 (by omega))
          have hfz13 := ho13.frozenAt 4
          have hst13 := (ho13.stored 4 (.int .u8 ((2 : Nat) : Int))).1
          rw [← By_set] at hst13
          have hbs13 := bel_trans (unhide HBX) (hb13.setCell hgb13 (.int .u8 ((2 : Nat) : Int)) : Below w12.heap.size w12 (w13.setCell ⟨g13, 4, none⟩ (.int .u8 ((2 : Nat) : Int))))
          obtain ⟨_, _, _, _, hbw⟩ := unhide HK _ hbs13
          have HLD := hide (load_any _ (some ⟨g13, 0, none⟩) (Sp.encode vs ms).length d13 ((Sp.encode vs ms).set 4 2) (w13.setCell ⟨g13, 4, none⟩ (.int .u8 ((2 : Nat) : Int))) (Rd.owned hst13) (Nat.le_refl _) (set_lt (unhide HLT) 4 2 (by omega)) (by omega) ((unhide HT).below hbw (unhide HT).1) ((unhide HU).below hbw (unhide HU).1))
          have HBS := hide hbs13
          clear ho13 hb13 hgb13 hgl13 hst13 hbs13 hbw HCP HBX
          go_wp2_with fail
          refine (unhide HLD).mono ?_
          rintro e w14 ⟨pv, f, rfl, hres, hb14⟩
          obtain ⟨rfl, rfl⟩ := res_head (firm_version (unhide HEH)) (by omega) hres
          have HBX := hide (bel_trans (unhide HBS) hb14)
          clear hres hb14 HLD HBS hcell13 hfz13
          obtain ⟨_, _, rb, hax, hbw⟩ := unhide HK _ (unhide HBX)
          have HCP := hide (kcopiedBytes_any _ _ _ cb _ w14 rb (by omega))
          clear rb hax hbw
          obtain ⟨x8, hx8⟩ : ∃ x8, (Sp.encode vs ms)[8]?.getD 0 = x8 := ⟨_, rfl⟩
          have hx256 : x8 < 256 := hx8 ▸ Sp.getD_lt (unhide HLT) (by omega) 8
          have hxe : (Sp.encode vs ms)[8]'(by omega) = x8 := by rw [← hx8, List.getElem?_eq_getElem (by omega)]; rfl
          obtain ⟨y8, hy8⟩ : ∃ y8, x8 ^^^ 4 = y8 := ⟨_, rfl⟩
          have hy256 : y8 < 256 := hy8 ▸ Nat.xor_lt_two_pow (n := 8) hx256 (by omega)
          have hxo : bits BinOp.xor IntKind.u8 (x8 : Int) 4 = (y8 : Int) := by rw [← hy8]; exact u8_xor_nat x8 4 hx256 (by omega)
          have HFH := hide (firm_head (unhide HEH) (unhide HLT))
          rw [hx8, hy8] at HFH
          have HXE := hide hxe
          clear hx8 hy8 hxe
          go_wp2_with fail
          refine (unhide HCP).mono ?_
          rintro e w15 ⟨v15, rfl, ho15, hb15⟩
          obtain ⟨g15, d15, rfl, hgc15, hgb15, hgl15, _⟩ := own_form ho15 (by omega)
          have hcell15 := (ho15.cellAt 8 (by omega)).trans (By_at _ 8 (by omega))
          have hfz15 := ho15.frozenAt 8
          have hst15 := (ho15.stored 8 (.int .u8 ((y8 : Nat) : Int))).1
          rw [← By_set] at hst15
          have hbs15 := bel_trans (unhide HBX) (hb15.setCell hgb15 (.int .u8 ((y8 : Nat) : Int)) : Below w14.heap.size w14 (w15.setCell ⟨g15, 8, none⟩ (.int .u8 ((y8 : Nat) : Int))))
          obtain ⟨_, _, _, _, hbw⟩ := unhide HK _ hbs15
          have HLD := hide (load_any _ (some ⟨g15, 0, none⟩) (Sp.encode vs ms).length d15 ((Sp.encode vs ms).set 8 y8) (w15.setCell ⟨g15, 8, none⟩ (.int .u8 ((y8 : Nat) : Int))) (Rd.owned hst15) (Nat.le_refl _) (set_lt (unhide HLT) 8 y8 (by omega)) (by omega) ((unhide HT).below hbw (unhide HT).1) ((unhide HU).below hbw (unhide HU).1))
          have HBS := hide hbs15
          rw [unhide HXE] at hcell15
          clear ho15 hb15 hgb15 hgl15 hst15 hbs15 hbw HCP HBX
          go_wp2_with fail
          refine (unhide HLD).mono ?_
          rintro e w16 ⟨pv, f, rfl, hres, hb16⟩
          obtain ⟨rfl, rfl⟩ := res_head (unhide HFH) (by omega) hres
          have HBX := hide (bel_trans (unhide HBS) hb16)
          clear hres hb16 HLD HBS hcell15 hfz15
          obtain ⟨_, _, rb, hax, hbw⟩ := unhide HK _ (unhide HBX)
          have HCP := hide (kcopiedBytes_any _ _ _ cb _ w16 rb (by omega))
          have HAX := hide (And.intro rb (And.intro hax hbw))
          clear rb hax hbw HCP hxo
          go_wp2_with fail
          obtain ⟨rb, hax, hbw⟩ := unhide HAX
          have cvA := conv_rd (P := Tryd.prog) w16.drew 45 5 9 (rd_drew rb) Tryd.underlying45 Tryd.underlying5 Tryd.underlying9
          obtain ⟨lo, hi', hix⟩ := hax.ix
          have HENC := hide (encode_any lo hi' X vs ms w16.drew (idx_later hix (drew_bel _) (Nat.le_refl _) (Nat.le_refl _)) (unhide HF) ((unhide HT).below hbw.drew (unhide HT).1))
          have HRB := hide rb
          have HBW := hide hbw
          clear rb hax hbw hix HAX HEH HLT HFH HBX
          generalize hSS : str (Sp.encode vs ms) = S at *
          have HSS := hide hSS
          clear hSS
          go_region_with (first
            | (go_at_call 25; refine (unhide HENC).mono ?_; rintro e w8 ⟨v8, rfl, ho8, hb8⟩; rw [By_len] at ho8; obtain ⟨pe, ce, rfl, _⟩ := own_slice ho8; have cvB := conv_rd (P := Tryd.prog) w8 45 5 9 (Rd.owned ho8) Tryd.underlying45 Tryd.underlying5 Tryd.underlying9; have cvC := conv_rd (P := Tryd.prog) w8 45 5 9 ((rd_drew (unhide HRB)).below hb8) Tryd.underlying45 Tryd.underlying5 Tryd.underlying9; rw [unhide HSS] at cvB cvC; have HB8 := hide hb8; clear ho8 hb8))
          all_goals
            go_wp2
            go_ret
            exact ⟨ret_bool (by simp), bel_trans (unhide HBW) (bel_trans (drew_bel _) (unhide HB8))⟩
end Kp
end Go.Proofs.YtolkjadklbchfaaDoor
