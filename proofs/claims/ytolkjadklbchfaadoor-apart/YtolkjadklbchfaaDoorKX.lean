import Derived.Test.YtolkjadklbchfaaDoorD5
import Derived.Deep.DeepCutAuto
import Derived.Deep.RegionHeld3
/- Walks of the keeps: Apart. -/
open Go Go.RowKit
namespace Go.Proofs.YtolkjadklbchfaaDoor
namespace Kp
open Mem Rf Pr Ld

/-- Nothing but blocks from a on and below b has turned. -/
structure Out (a b : Nat) (w w' : World) : Prop where
  os : w'.os = w.os
  tape : w'.tape = w.tape
  output : w'.output = w.output
  size : w.heap.size ≤ w'.heap.size
  block : ∀ k, k < w.heap.size → (k < a ∨ b ≤ k) → w'.heap[k]? = w.heap[k]?
theorem Out.refl (a b : Nat) (w : World) : Out a b w w := ⟨rfl, rfl, rfl, Nat.le_refl _, fun _ _ _ => rfl⟩
theorem Out.set {a b : Nat} {w wr : World} (h : Out a b w wr) {g : Nat} (ha : a ≤ g) (hb : g < b) (j : Nat) (u : Value) : Out a b w (wr.setCell ⟨g, j, none⟩ u) :=
  ⟨h.os, h.tape, h.output, by simpa [World.setCell] using h.size, fun k hk ho => (Below.heap_setCell _ _ _ _ (by show k ≠ g; omega)).trans (h.block k hk ho)⟩
theorem Out.below {a b : Nat} {w w' : World} (h : Out a b w w') (ha : a ≤ w.heap.size) : Below a w w' := ⟨h.os, h.tape, h.output, h.size, fun k hk => h.block k (by omega) (.inl hk)⟩
theorem Out.own {a b : Nat} {w w' : World} (h : Out a b w w') {base : Nat} {e : TypeId} {size : Nat} {v : Value} {n : Nat} {xs : List Value} (ho : w.ownsRow base e size v n xs) (hv : ∀ k, v.ownBlock = some k → k < a ∨ b ≤ k) : w'.ownsRow base e size v n xs := by
  refine ⟨ho.1, ?_⟩
  have hl := ho.lt
  rcases ho.2 with hn | ⟨g, cap, cur, rfl, hbg, hgg, rest⟩
  · exact .inl hn
  · exact .inr ⟨g, cap, cur, rfl, hbg, by rw [h.block g (hl g rfl).2 (hv g rfl)]; exact hgg, rest⟩
theorem Out.idx {a b : Nat} {w w' : World} (h : Out a b w w') {lo hi X : Nat} {vs ms : List Nat} (hi1 : Idx lo hi w X vs ms) (hh : hi ≤ a ∨ b ≤ lo) : Idx lo hi w' X vs ms := by
  obtain ⟨w1, a1, w2, a2, w3, a3, hbk, o1, o2, o3⟩ := hi1.blk
  have hx := hi1.at_
  have hX := (Array.getElem?_eq_some_iff.1 hbk).1
  have key : ∀ {yw ya : Value} {l : List Bool}, RowIn lo hi w yw ya l → RowIn lo hi w' yw ya l := fun r =>
    ⟨⟨h.own r.row.ow (fun k hk => by have h1 := r.lw k hk; have h2 := (r.row.ow.lt k hk).1; omega), h.own r.row.oa (fun k hk => by have h1 := r.la k hk; have h2 := (r.row.oa.lt k hk).1; omega)⟩, r.lw, r.la⟩
  exact ⟨hi1.at_, w1, a1, w2, a2, w3, a3, (h.block X hX (by omega)).trans hbk, key o1, key o2, key o3⟩

theorem U64_set2 (xs : List Nat) (j y : Nat) : U64 (xs.set j y) = (U64 xs).set j (.int .u64 (y : Int)) := by simp [U64, List.map_set]
theorem I64_set2 (xs : List Int) (j : Nat) (y : Int) : I64 (xs.set j y) = (I64 xs).set j (.int .i64 y) := by simp [I64, List.map_set]
theorem wrap64_in (z : Int) : -9223372036854775808 ≤ wrap64 z ∧ wrap64 z ≤ 9223372036854775807 := by
  unfold wrap64
  omega

set_option maxHeartbeats 8000000 in
set_option maxRecDepth 100000 in
theorem kapart_any (B : Nat) (p : Option Addr) (n c : Nat) (xs : List Nat) (q : Option Addr) (m d : Nat) (ys : List Int) (few : Int) (po : Option Addr) (no co : Nat) (os : List Nat) (w : World) (hv : Rd B w (.slice p n c) (U64 xs)) (hy : Rd B w (.slice q m d) (I64 ys)) (ho : Rd B w (.slice po no co) (U64 os)) (hB : B ≤ w.heap.size) (hbig : ∀ x ∈ xs, x < 18446744073709551616) (hn : n ≤ 17592186044000)
    (hfew : -9223372036854775808 ≤ few ∧ few ≤ 9223372036854775807) (hbo : ∀ x ∈ os, x < 18446744073709551616) (hno : no ≤ 17592186044000) (hT : Tab w) (hU : Bru w) :
    Calls Tryd.prog 10 #[.slice p n c, .slice q m d, .int .i64 few, .slice po no co] w fun e w' => e = .returned (.bool true) ∧ Below w.heap.size w w' := by
  have HR1 := hide (krow_any B p n c xs q m d ys few w hv hy hB hbig hn hfew)
  have HR2 := hide (fun (f2 : Int) (hf2 : -9223372036854775808 ≤ f2 ∧ f2 ≤ 9223372036854775807) (w' : World) (hb : Below w.heap.size w w') => krow_any B po no co os q m d ys f2 w' (ho.below (hb.mono hB)) (hy.below (hb.mono hB)) (Nat.le_trans hB hb.size) hbo hno hf2)
  have HT := hide hT
  have HU := hide hU
  clear hv hy ho hbig hbo hT hU
  go_enter Tryd.func10, Tryd.ntmps10
  go_wp2_with fail
  refine (unhide HR1).mono ?_
  rintro e w1 ⟨V, M, vs, ms, rfl, hoV, hoM, _, hmd, hb1⟩
  obtain ⟨pV, cV, rfl, _⟩ := own_slice hoV
  obtain ⟨pM, cM, rfl, _⟩ := own_slice hoM
  have HF1 : Hid (Fits vs ms) := hmd.fits (by omega)
  have HBA := hide (bel_trans hb1 (alloc_bel w1 (.cells #[.slice pV vs.length cV, .slice pM ms.length cM] 25)))
  have HRA := hide (And.intro (Rd.owned (hoV.alloc (.cells #[.slice pV vs.length cV, .slice pM ms.length cM] 25))) (And.intro (Rd.owned (hoM.alloc (.cells #[.slice pV vs.length cV, .slice pM ms.length cM] 25))) (And.intro (box5 w1 #[.slice pV vs.length cV, .slice pM ms.length cM] 25 0 _ rfl) (box5 w1 #[.slice pV vs.length cV, .slice pM ms.length cM] 25 1 _ rfl))))
  clear hoV hoM hmd hb1 HR1
  go_wp2_with fail
  refine (unhide HR2 _ (wrap64_in _) _ (unhide HBA)).mono ?_
  rintro e w2 ⟨V2, M2, us, ns, rfl, hoV, hoM, _, hmd, hb2⟩
  obtain ⟨pW, cW, rfl, _⟩ := own_slice hoV
  obtain ⟨pN, cN, rfl, _⟩ := own_slice hoM
  have HF2 : Hid (Fits us ns) := hmd.fits (by omega)
  have HK : Hid (∀ w' : World, Below (w2.alloc (.cells #[.slice pW us.length cW, .slice pN ns.length cN] 25)).heap.size (w2.alloc (.cells #[.slice pW us.length cW, .slice pN ns.length cN] 25)) w' →
      (w'.cell? ⟨w1.heap.size, 0, none⟩ = some (.slice pV vs.length cV) ∧ w'.cell? ⟨w1.heap.size, 1, none⟩ = some (.slice pM ms.length cM) ∧ w'.cell? ⟨w2.heap.size, 0, none⟩ = some (.slice pW us.length cW) ∧ w'.cell? ⟨w2.heap.size, 1, none⟩ = some (.slice pN ns.length cN)) ∧
      (Rd w'.heap.size w' (.slice pV vs.length cV) (U64 vs) ∧ Rd w'.heap.size w' (.slice pM ms.length cM) (I64 (NI ms)) ∧ Rd w'.heap.size w' (.slice pW us.length cW) (U64 us) ∧ Rd w'.heap.size w' (.slice pN ns.length cN) (I64 (NI ns))) ∧ Below w.heap.size w w') := by
    intro w' hb
    obtain ⟨r1, r2, k0, k1⟩ := unhide HRA
    have hba := bel_trans hb2 (bel_trans (alloc_bel w2 _) hb)
    have hbb := bel_trans (alloc_bel w2 _) hb
    exact ⟨⟨later_cell k0 hba, later_cell k1 hba, later_cell (box5 w2 _ 25 0 _ rfl) hb, later_cell (box5 w2 _ 25 1 _ rfl) hb⟩, ⟨(r1.below hba).mono hba.size, (r2.below hba).mono hba.size, ((Rd.owned hoV).below hbb).mono hbb.size, ((Rd.owned hoM).below hbb).mono hbb.size⟩, bel_trans (unhide HBA) hba⟩
  have hn1 := (unhide HF1).len
  have hm1 : ms.length ≤ 200 := Nat.le_trans (unhide HF1).mlen hn1
  have hn2 := (unhide HF2).len
  have hm2 : ns.length ≤ 200 := Nat.le_trans (unhide HF2).mlen hn2
  clear hoV hoM hmd hb2 HR2 HRA HBA
  generalize hnv : vs.length = nv at *
  generalize hnm : ms.length = nm at *
  generalize hnu : us.length = nu at *
  generalize hnn : ns.length = nn at *
  have HLL := hide (And.intro (And.intro hnv hnm) (And.intro hnu hnn))
  clear hnv hnm hnu hnn
  obtain ⟨⟨k0, k1, _, _⟩, ⟨rV, rM, _, _⟩, _⟩ := unhide HK _ (Below.refl _ _)
  have HC3 := hide (kcopied_any pV _ nv cV vs _ rV (by omega))
  clear rV rM
  go_wp2_with fail
  generalize hwb : w2.alloc (.cells #[.slice pW nu cW, .slice pN nn cN] 25) = wb at *
  clear hwb
  refine (unhide HC3).mono ?_
  rintro e w3 ⟨v3, rfl, ho3, hb3⟩
  rw [(unhide HLL).1.1] at ho3
  obtain ⟨p3, c3, rfl, _⟩ := own_slice ho3
  obtain ⟨⟨d0, d1, _, _⟩, ⟨_, rM, _, _⟩, _⟩ := unhide HK _ hb3
  have HC4 := hide (kcopiedInts_any pM _ nm cM (NI ms) w3 rM (by omega))
  have HO3 := hide ho3
  have HB3 := hide hb3
  clear ho3 hb3 rM HC3 k0 k1
  go_wp2_with fail
  refine (unhide HC4).mono ?_
  rintro e w4 ⟨v4, rfl, ho4, hb4⟩
  rw [show (NI ms).length = nm from by rw [← (unhide HLL).1.2]; simp [NI]] at ho4
  obtain ⟨p4, c4, rfl, _⟩ := own_slice ho4
  have HO3b := hide (own_later (unhide HO3) hb4)
  have hok : Sp.upTo nv 0 (NI ms) = true := by rw [← (unhide HLL).1.1]; exact upTo_fits 0 (unhide HF1).rises (unhide HF1).mlt (fun x _ => Nat.zero_le x)
  have HBG := hide (build_good p3 nv c3 vs p4 w4.heap.size nm c4 ms w4 (Rd.owned (unhide HO3b)) (Rd.owned ho4) (Nat.le_refl _) (unhide HF1) hok)
  have HO4 := hide ho4
  have HB4 := hide (bel_trans (unhide HB3) hb4)
  have HS34 : Hid (wb.heap.size ≤ w3.heap.size ∧ w3.heap.size ≤ w4.heap.size) := ⟨(unhide HB3).size, hb4.size⟩
  have HV3 : Hid (∀ k, (Value.slice p3 nv c3).ownBlock = some k → wb.heap.size ≤ k ∧ k < w3.heap.size) := fun k hk => (unhide HO3).lt k hk
  have HM4 : Hid (∀ k, (Value.slice p4 nm c4).ownBlock = some k → w3.heap.size ≤ k ∧ k < w4.heap.size) := fun k hk => ho4.lt k hk
  clear ho4 hb4 hok HC4 HO3 HB3 d0 d1
  go_wp2_with fail
  refine (unhide HBG).mono ?_
  rintro e w5 ⟨X, rfl, hidx, hb5⟩
  have HX5 := hide hidx
  have HO35 := hide (own_later (unhide HO3b) hb5)
  have HO45 := hide (own_later (unhide HO4) hb5)
  have HB5 := hide (bel_trans (unhide HB4) hb5)
  have HS5 := hide hb5.size
  clear hidx hb5 HBG
  go_upto_region 8 with fail
  rename_i KK hKK
  have HKK := hide hKK
  clear hKK
  go_wp2_with fail
  refine unhide HKK _ _ ?_
  clear HKK
  rename_i KO hKO
  go_cut [15] (fun _ wx => Out wb.heap.size w3.heap.size w5 wx)
  case first =>
    clear hKO
    go_wp2
    go_loopw [15] (fun ii wr => ∃ (k : Nat) (l : List Nat), k ≤ nv ∧ ii = .int .i64 (k : Nat) ∧ l.length = nv ∧ wr.ownsRow wb.heap.size 27 1 (.slice p3 nv c3) nv (U64 l) ∧ Out wb.heap.size w3.heap.size w5 wr) (fun ii _ => nv - (intOf ii).toNat)
    case atStart => exact ⟨0, vs, by omega, rfl, (unhide HLL).1.1, unhide HO35, Out.refl _ _ _⟩
    case round =>
      obtain ⟨k, l, hk, rfl, hl, hown, hout⟩ := hrel
      by_cases hlt : k < nv
      · obtain ⟨g, c', hform, hgc, hgb, hgl, _⟩ := own_form hown (by omega)
        simp only [Value.slice.injEq] at hform
        obtain ⟨rfl, _, rfl⟩ := hform
        have hg := unhide HV3 g rfl
        have hcell := (hown.cellAt k (by omega)).trans (U64_at l k (by omega))
        have hfz := hown.frozenAt k
        have hst := (hown.stored k (.int .u64 ((3 : Nat) : Int))).1
        rw [← U64_set2] at hst
        have HST := hide (And.intro hst (hout.set hg.1 hg.2 k (.int .u64 ((3 : Nat) : Int))))
        clear hown hout hst
        generalize l[k] = x at *
        go_wp2
        go_roundw
        case rel => exact ⟨k + 1, l.set k 3, by omega, by go_num, by rw [List.length_set]; exact hl, unhide HST⟩
        case measure => simp [intOf]; omega
      · have HOU := hide hout
        clear hown hout
        go_wp2
        go_meet
        exact unhide HOU
  case rest =>
    obtain ⟨w6, hw6⟩ : ∃ w6, w6 = wc := ⟨_, rfl⟩
    subst hw6
    have HX6 := hide (hcut.idx (unhide HX5) (.inr (unhide HS34).2))
    have HO46 := hide (hcut.own (unhide HO45) (fun k hk => .inr (unhide HM4 k hk).1))
    have HB6 := hide ((unhide HB5).trans (hcut.below (unhide HB5).size))
    have HS6 := hide (Nat.le_trans (unhide HS5) hcut.size)
    have HS56 := hide hcut.size
    clear hcut HX5 HO35 HO45 HB5 HS5 HO3b HO4 HB4 HV3
    go_upto_region 12 with fail
    rename_i KK hKK
    have HKK := hide hKK
    clear hKK
    go_wp2_with fail
    refine unhide HKK _ _ ?_
    clear HKK
    rename_i KO hKO
    go_cut [16] (fun _ wx => Out w3.heap.size w4.heap.size w6 wx)
    case first =>
      clear hKO
      go_wp2
      go_loopw [16] (fun ii wr => ∃ (k : Nat) (l : List Int), k ≤ nm ∧ ii = .int .i64 (k : Nat) ∧ l.length = nm ∧ wr.ownsRow w3.heap.size 3 1 (.slice p4 nm c4) nm (I64 l) ∧ Out w3.heap.size w4.heap.size w6 wr) (fun ii _ => nm - (intOf ii).toNat)
      case atStart => exact ⟨0, NI ms, by omega, rfl, (by rw [← (unhide HLL).1.2]; simp [NI]), unhide HO46, Out.refl _ _ _⟩
      case round =>
        obtain ⟨k, l, hk, rfl, hl, hown, hout⟩ := hrel
        by_cases hlt : k < nm
        · obtain ⟨g, c', hform, hgc, hgb, hgl, _⟩ := own_form hown (by omega)
          simp only [Value.slice.injEq] at hform
          obtain ⟨rfl, _, rfl⟩ := hform
          have hg := unhide HM4 g rfl
          have hcell := (hown.cellAt k (by omega)).trans (I64_at l k (by omega))
          have hfz := hown.frozenAt k
          have hst := (hown.stored k (.int .i64 0)).1
          rw [← I64_set2] at hst
          have HST := hide (And.intro hst (hout.set hg.1 hg.2 k (.int .i64 0)))
          clear hown hout hst
          generalize l[k] = x at *
          go_wp2
          go_roundw
          case rel => exact ⟨k + 1, l.set k 0, by omega, by go_num, by rw [List.length_set]; exact hl, unhide HST⟩
          case measure => simp [intOf]; omega
        · have HOU := hide hout
          clear hown hout
          go_wp2
          go_meet
          exact unhide HOU
    case rest =>
      obtain ⟨w7, hw7⟩ : ∃ w7, w7 = wc := ⟨_, rfl⟩
      subst hw7
      have HX7 := hide (hcut.idx (unhide HX6) (.inr (Nat.le_refl _)))
      have HB7 := hide ((unhide HB6).trans ((hcut.below (Nat.le_trans (unhide HS34).2 (unhide HS6))).mono (unhide HS34).1))
      have HS7 := hide hcut.size
      clear hcut HX6 HO46 HB6 HM4
      obtain ⟨⟨_, _, k2, k3⟩, ⟨_, _, rW, rN⟩, hbw⟩ := unhide HK _ (unhide HB7)
      have HBU := hide (kbuilt_idx _ pW nu cW us pN nn cN ns w7 rW rN (Nat.le_refl _) (unhide HF2) ((unhide HU).below hbw (unhide HU).1))
      clear rW rN hbw
      go_wp2_with fail
      refine (unhide HBU).mono ?_
      rintro e w8 ⟨Y, rfl, hidy, hb8⟩
      have HX8 := hide (idx_later (unhide HX7) hb8 (Nat.le_refl _) (Nat.le_refl _))
      have HY8 := hide hidy
      have HB8 := hide (bel_trans (unhide HB7) hb8)
      have HS8 := hide (Nat.le_trans (unhide HS56) (Nat.le_trans (unhide HS7) hb8.size))
      have HSB := hide (unhide HB8).size
      have HEN := hide (encode_any _ _ X vs ms w8 (unhide HX8) (unhide HF1) ((unhide HT).below (unhide HK _ (unhide HB8)).2.2 (unhide HT).1))
      clear hidy hb8 HX7 HB7 HBU k2 k3 HS6 HS7
      go_wp2_with fail
      refine (unhide HEN).mono ?_
      rintro e w9 ⟨v9, rfl, ho9, hb9⟩
      rw [By_len] at ho9
      obtain ⟨p9, c9, rfl, _⟩ := own_slice ho9
      have hel := enc_len_small (unhide HF1)
      have HV9 : Hid (∀ k, (Value.slice p9 (Sp.encode vs ms).length c9).ownBlock = some k → w8.heap.size ≤ k ∧ k < w9.heap.size) := fun k hk => ho9.lt k hk
      have HX9 := hide (idx_later (unhide HX8) hb9 (Nat.le_refl _) (Nat.le_refl _))
      have HY9 := hide (idx_later (unhide HY8) hb9 (Nat.le_refl _) (Nat.le_refl _))
      have HB9 := hide (bel_trans (unhide HB8) hb9)
      have HO9 := hide ho9
      have HS89 := hide hb9.size
      have HC10 := hide (kcopiedBytes_any p9 _ _ c9 _ w9 (Rd.owned ho9) (by omega))
      clear ho9 hb9 HX8 HY8 HB8 HEN
      go_wp2_with fail
      refine (unhide HC10).mono ?_
      rintro e w10 ⟨v10, rfl, ho10, hb10⟩
      obtain ⟨p10, c10, rfl, _⟩ := own_slice ho10
      have HX10 := hide (idx_later (unhide HX9) hb10 (Nat.le_refl _) (Nat.le_refl _))
      have HY10 := hide (idx_later (unhide HY9) hb10 (Nat.le_refl _) (Nat.le_refl _))
      have HO90 := hide (own_later (unhide HO9) hb10)
      have HO10 := hide ho10
      have HB10 := hide (bel_trans (unhide HB9) hb10)
      have HS9 := hide hb10.size
      have hbw := (unhide HK _ (unhide HB10)).2.2
      have HLO := hide (load_own _ p9 _ c9 vs ms w10 (Rd.owned (unhide HO90)) (Nat.le_refl _) (unhide HF1) ((unhide HT).below hbw (unhide HT).1) ((unhide HU).below hbw (unhide HU).1))
      clear ho10 hb10 hbw HX9 HY9 HO9 HB9 HC10
      go_wp2_with fail
      refine (unhide HLO).mono ?_
      rintro e w11 ⟨Z, rfl, _, hidz, hb11⟩
      have HX11 := hide (idx_later (unhide HX10) hb11 (Nat.le_refl _) (Nat.le_refl _))
      have HY11 := hide (idx_later (unhide HY10) hb11 (Nat.le_refl _) (Nat.le_refl _))
      have HZ11 := hide hidz
      have HO91 := hide (own_later (unhide HO90) hb11)
      have HO11 := hide (own_later (unhide HO10) hb11)
      have HB11 := hide (bel_trans (unhide HB10) hb11)
      have HS11 := hide (Nat.le_trans (unhide HS9) hb11.size)
      clear hidz hb11 HX10 HY10 HO90 HO10 HB10 HLO
      generalize hEE : Sp.encode vs ms = E at *
      have HEE := hide hEE
      clear hEE
      generalize hee : E.length = el at *
      have HEL := hide hee
      clear hee
      go_upto_region 22 with fail
      rename_i KK hKK
      have HKK := hide hKK
      clear hKK
      go_wp2_with fail
      refine unhide HKK _ _ ?_
      clear HKK
      rename_i KO hKO
      go_cut [23] (fun _ wx => Out w8.heap.size w9.heap.size w11 wx)
      case first =>
        clear hKO
        go_wp2
        go_loopw [23] (fun ii wr => ∃ (k : Nat) (l : List Nat), k ≤ el ∧ ii = .int .i64 (k : Nat) ∧ l.length = el ∧ wr.ownsRow w8.heap.size 5 1 (.slice p9 el c9) el (By l) ∧ Out w8.heap.size w9.heap.size w11 wr) (fun ii _ => el - (intOf ii).toNat)
        case atStart => exact ⟨0, E, by omega, rfl, unhide HEL, unhide HO91, Out.refl _ _ _⟩
        case round =>
          obtain ⟨k, l, hk, rfl, hl, hown, hout⟩ := hrel
          by_cases hlt : k < el
          · obtain ⟨g, c', hform, hgc, hgb, hgl, _⟩ := own_form hown (by omega)
            simp only [Value.slice.injEq] at hform
            obtain ⟨rfl, _, rfl⟩ := hform
            have hg := unhide HV9 g rfl
            have hcell := (hown.cellAt k (by omega)).trans (By_at l k (by omega))
            have hfz := hown.frozenAt k
            have hst := (hown.stored k (.int .u8 ((9 : Nat) : Int))).1
            rw [← By_set] at hst
            have HST := hide (And.intro hst (hout.set hg.1 hg.2 k (.int .u8 ((9 : Nat) : Int))))
            clear hown hout hst
            generalize l[k] = x at *
            go_wp2
            go_roundw
            case rel => exact ⟨k + 1, l.set k 9, by omega, by go_num, by rw [List.length_set]; exact hl, unhide HST⟩
            case measure => simp [intOf]; omega
          · have HOU := hide hout
            clear hown hout
            go_wp2
            go_meet
            exact unhide HOU
      case rest =>
        obtain ⟨w12, hw12⟩ : ∃ w12, w12 = wc := ⟨_, rfl⟩
        subst hw12
        have HX12 := hide (hcut.idx (unhide HX11) (.inl (unhide HS8)))
        have HY12 := hide (hcut.idx (unhide HY11) (.inl (Nat.le_refl _)))
        have HZ12 := hide (hcut.idx (unhide HZ11) (.inr (unhide HS9)))
        have HO12 := hide (hcut.own (unhide HO11) (fun k hk => .inr ((unhide HO11).lt k hk).1))
        have HB12 := hide ((unhide HB11).trans ((hcut.below (Nat.le_trans (unhide HS89) (unhide HS11))).mono (unhide HSB)))
        have hbw := (unhide HK _ (unhide HB12)).2.2
        have HTU : Hid (Tab w12 ∧ Bru w12) := ⟨(unhide HT).below hbw (unhide HT).1, (unhide HU).below hbw (unhide HU).1⟩
        have hax : Pr.Ask w12 X vs ms := ⟨⟨_, _, unhide HX12⟩, unhide HF1, (unhide HTU).2⟩
        have hay : Pr.Ask w12 Y us ns := ⟨⟨_, _, unhide HY12⟩, unhide HF2, (unhide HTU).2⟩
        have haz : Pr.Ask w12 Z vs ms := ⟨⟨_, _, unhide HZ12⟩, unhide HF1, (unhide HTU).2⟩
        have HT1 := hide (ktold_any X vs ms w12 hax)
        have HT2 := hide (fun (w' : World) (hb : Below w12.heap.size w12 w') => ktold_any Y us ns w' (hay.later hb))
        have HT3 := hide (fun (w' : World) (hb : Below w12.heap.size w12 w') => ktold_any Z vs ms w' (haz.later hb))
        have HAX := hide (And.intro hax haz)
        clear hcut hbw hax hay haz HX11 HY11 HZ11 HO91 HO11 HB11 HS8 HS9 HS11 HS89 HSB HX12 HY12 HZ12 HV9 HS34 HS56
        go_wp2_with fail
        refine (unhide HT1).mono ?_
        rintro e w13 ⟨V13, M13, rfl, ho13, hp13, hb13⟩
        rw [(unhide HLL).1.1] at ho13
        rw [(unhide HLL).1.2] at hp13
        obtain ⟨pA, cA, rfl, _⟩ := own_slice ho13
        obtain ⟨pB, cB, rfl, _⟩ := own_slice hp13
        have HO13 := hide (And.intro (Rd.owned (ho13.alloc (.cells #[.slice pA nv cA, .slice pB nm cB] 25))) (And.intro (Rd.owned (hp13.alloc (.cells #[.slice pA nv cA, .slice pB nm cB] 25))) (And.intro (box5 w13 #[.slice pA nv cA, .slice pB nm cB] 25 0 _ rfl) (box5 w13 #[.slice pA nv cA, .slice pB nm cB] 25 1 _ rfl))))
        have HB13 := hide (bel_trans hb13 (alloc_bel w13 (.cells #[.slice pA nv cA, .slice pB nm cB] 25)))
        clear ho13 hp13 hb13 HT1
        go_wp2_with fail
        generalize hwt1 : w13.alloc (.cells #[.slice pA nv cA, .slice pB nm cB] 25) = wt1 at *
        clear hwt1
        refine (unhide HT2 _ (unhide HB13)).mono ?_
        rintro e w14 ⟨V14, M14, rfl, ho14, hp14, hb14⟩
        rw [(unhide HLL).2.1] at ho14
        rw [(unhide HLL).2.2] at hp14
        obtain ⟨pC, cC, rfl, _⟩ := own_slice ho14
        obtain ⟨pD, cD, rfl, _⟩ := own_slice hp14
        have HO14 := hide (And.intro (Rd.owned (ho14.alloc (.cells #[.slice pC nu cC, .slice pD nn cD] 25))) (And.intro (Rd.owned (hp14.alloc (.cells #[.slice pC nu cC, .slice pD nn cD] 25))) (And.intro (box5 w14 #[.slice pC nu cC, .slice pD nn cD] 25 0 _ rfl) (box5 w14 #[.slice pC nu cC, .slice pD nn cD] 25 1 _ rfl))))
        have HB14 := hide (bel_trans hb14 (alloc_bel w14 (.cells #[.slice pC nu cC, .slice pD nn cD] 25)))
        clear ho14 hp14 hb14 HT2
        go_wp2_with fail
        generalize hwt2 : w14.alloc (.cells #[.slice pC nu cC, .slice pD nn cD] 25) = wt2 at *
        clear hwt2
        refine (unhide HT3 _ (bel_trans (unhide HB13) (unhide HB14))).mono ?_
        rintro e w15 ⟨V15, M15, rfl, ho15, hp15, hb15⟩
        rw [(unhide HLL).1.1] at ho15
        rw [(unhide HLL).1.2] at hp15
        obtain ⟨pG, cG, rfl, _⟩ := own_slice ho15
        obtain ⟨pH, cH, rfl, _⟩ := own_slice hp15
        have HO15 := hide (And.intro (Rd.owned (ho15.alloc (.cells #[.slice pG nv cG, .slice pH nm cH] 25))) (And.intro (Rd.owned (hp15.alloc (.cells #[.slice pG nv cG, .slice pH nm cH] 25))) (And.intro (box5 w15 #[.slice pG nv cG, .slice pH nm cH] 25 0 _ rfl) (box5 w15 #[.slice pG nv cG, .slice pH nm cH] 25 1 _ rfl))))
        have HB15 := hide (bel_trans hb15 (alloc_bel w15 (.cells #[.slice pG nv cG, .slice pH nm cH] 25)))
        clear ho15 hp15 hb15 HT3
        have HK2 : Hid (∀ w' : World, Below (w15.alloc (.cells #[.slice pG nv cG, .slice pH nm cH] 25)).heap.size (w15.alloc (.cells #[.slice pG nv cG, .slice pH nm cH] 25)) w' →
            (w'.cell? ⟨w1.heap.size, 0, none⟩ = some (.slice pV nv cV) ∧ w'.cell? ⟨w1.heap.size, 1, none⟩ = some (.slice pM nm cM) ∧ w'.cell? ⟨w2.heap.size, 0, none⟩ = some (.slice pW nu cW) ∧ w'.cell? ⟨w2.heap.size, 1, none⟩ = some (.slice pN nn cN)) ∧
            (w'.cell? ⟨w13.heap.size, 0, none⟩ = some (.slice pA nv cA) ∧ w'.cell? ⟨w13.heap.size, 1, none⟩ = some (.slice pB nm cB) ∧ w'.cell? ⟨w14.heap.size, 0, none⟩ = some (.slice pC nu cC) ∧ w'.cell? ⟨w14.heap.size, 1, none⟩ = some (.slice pD nn cD) ∧ w'.cell? ⟨w15.heap.size, 0, none⟩ = some (.slice pG nv cG) ∧ w'.cell? ⟨w15.heap.size, 1, none⟩ = some (.slice pH nm cH)) ∧
            (Rd w'.heap.size w' (.slice pV nv cV) (U64 vs) ∧ Rd w'.heap.size w' (.slice pM nm cM) (I64 (NI ms)) ∧ Rd w'.heap.size w' (.slice pW nu cW) (U64 us) ∧ Rd w'.heap.size w' (.slice pN nn cN) (I64 (NI ns))) ∧
            (Rd w'.heap.size w' (.slice pA nv cA) (U64 vs) ∧ Rd w'.heap.size w' (.slice pB nm cB) (I64 (NI ms)) ∧ Rd w'.heap.size w' (.slice pC nu cC) (U64 us) ∧ Rd w'.heap.size w' (.slice pD nn cD) (I64 (NI ns)) ∧ Rd w'.heap.size w' (.slice pG nv cG) (U64 vs) ∧ Rd w'.heap.size w' (.slice pH nm cH) (I64 (NI ms))) ∧ Below w12.heap.size w12 w' ∧ Below w.heap.size w w') := by
          intro w' hb
          have b2 := bel_trans (unhide HB15) hb
          have b1 := bel_trans (unhide HB14) b2
          have b0 := bel_trans (unhide HB13) b1
          have bb := bel_trans (unhide HB12) b0
          obtain ⟨q1, q2, q3⟩ := unhide HK _ bb
          obtain ⟨a1, a2, a3, a4⟩ := unhide HO13
          obtain ⟨e1, e2, e3, e4⟩ := unhide HO14
          obtain ⟨f1, f2, f3, f4⟩ := unhide HO15
          exact ⟨q1, ⟨later_cell a3 b1, later_cell a4 b1, later_cell e3 b2, later_cell e4 b2, later_cell f3 hb, later_cell f4 hb⟩, q2, ⟨(a1.below b1).mono b1.size, (a2.below b1).mono b1.size, (e1.below b2).mono b2.size, (e2.below b2).mono b2.size, (f1.below hb).mono hb.size, (f2.below hb).mono hb.size⟩, b0, q3⟩
        clear HK HO13 HO14 HO15 HB12 HB13 HB14 HB15
        obtain ⟨⟨k0, k1, _, _⟩, ⟨t0, t1, _, _, _, _⟩, ⟨rV, rM, _, _⟩, ⟨rA, rB, _, _, _, _⟩, _, _⟩ := unhide HK2 _ (Below.refl _ _)
        have HA1 := hide (kalike_any _ pV nv cV pM nm cM pA cA pB cB vs ms _ rV rM rA rB (Nat.le_refl _) (by omega) (by omega))
        clear rV rM rA rB
        go_wp2_with fail
        generalize hwt3 : w15.alloc (.cells #[.slice pG nv cG, .slice pH nm cH] 25) = wt3 at *
        clear hwt3
        refine (unhide HA1).mono ?_
        rintro e w16 ⟨rfl, hb16⟩
        clear k0 k1 t0 t1 HA1
        obtain ⟨⟨_, _, k2, k3⟩, ⟨_, _, t2, t3, _, _⟩, ⟨_, _, rW, rN⟩, ⟨_, _, rC, rD, _, _⟩, _, _⟩ := unhide HK2 _ hb16
        have HA2 := hide (kalike_any _ pW nu cW pN nn cN pC cC pD cD us ns w16 rW rN rC rD (Nat.le_refl _) (by omega) (by omega))
        have HB16 := hide hb16
        clear rW rN rC rD hb16
        go_wp2_with fail
        refine (unhide HA2).mono ?_
        rintro e w17 ⟨rfl, hb17⟩
        have HB17 := hide (bel_trans (unhide HB16) hb17)
        clear k2 k3 t2 t3 HA2 hb17 HB16
        obtain ⟨⟨k0, k1, _, _⟩, ⟨_, _, _, _, t4, t5⟩, ⟨rV, rM, _, _⟩, ⟨_, _, _, _, rG, rH⟩, _, _⟩ := unhide HK2 _ (unhide HB17)
        have HA3 := hide (kalike_any _ pV nv cV pM nm cM pG cG pH cH vs ms w17 rV rM rG rH (Nat.le_refl _) (by omega) (by omega))
        clear rV rM rG rH
        go_wp2_with fail
        refine (unhide HA3).mono ?_
        rintro e w18 ⟨rfl, hb18⟩
        obtain ⟨_, _, _, _, b12, hbw⟩ := unhide HK2 _ (bel_trans (unhide HB17) hb18)
        have HRC := hide (((Rd.owned (unhide HO12)).below b12).mono b12.size)
        have HENC : Hid (∀ (P : Nat) (w' : World), (P = X ∨ P = Z) → Below w18.heap.size w18 w' → Calls Tryd.prog 25 #[.pointer (some ⟨P, 0, none⟩)] w' fun e w'' => ∃ v, e = .returned v ∧ w''.ownsRow w'.heap.size 5 1 v el (By E) ∧ Below w'.heap.size w' w'') := by
          intro P w' hP hb
          have hap : Pr.Ask w' P vs ms := by
            rcases hP with rfl | rfl
            · exact ((unhide HAX).1.later b12).later hb
            · exact ((unhide HAX).2.later b12).later hb
          obtain ⟨lo, hi, hix⟩ := hap.ix
          refine (encode_any lo hi P vs ms w' hix hap.fit ((unhide HT).below (bel_trans hbw hb) (unhide HT).1)).mono ?_
          rintro e w'' ⟨v, rfl, hov, hbv⟩
          rw [By_len, unhide HEE, unhide HEL] at hov
          exact ⟨v, rfl, hov, hbv⟩
        have cvA := conv_rd (P := Tryd.prog) w18.drew 45 5 9 (rd_drew (unhide HRC)) Tryd.underlying45 Tryd.underlying5 Tryd.underlying9
        have HBW := hide hbw
        have HD : Hid (Below w18.heap.size w18 w18.drew) := drew_bel _
        clear hbw b12 hb18 HK2 HA3 HB17 k0 k1 t4 t5 HAX HO12 HT HU HF1 HF2 HTU
        generalize hSS : str E = S at *
        have HSS := hide hSS
        clear hSS
        go_wp2_with fail
        refine wp_region_held_drew (S := fun w' => (convert 45 9 (.slice p10 el c10)).run Tryd.prog w' = .ok (.string S) w') (by kernel_rfl) cvA (fun hHeld => ?_)
        refine wpAnyH_take (i := 0) (oi := { dst := some 133, op := Op.move (Operand.tmp 25), type := 4, pos := "keeps.go:459", after := #[], guard := none }) (v := ?v0) rfl (by kernel_rfl) (by kernel_rfl) (by kernel_rfl) (fun _ _ _ h => h) (Or.inl ⟨by rfl, ?hy0⟩) (by assumption) ?r0
        case hy0 => (intro w hSw; (try dsimp only at hSw); go_simp; (try with_reducible rfl))
        simp only [Act.put, List.setIfInBounds_toArray, List.set]
        refine wpAnyH_take (i := 1) (oi := { dst := some 134, op := Op.move (Operand.tmp 133), type := 4, pos := "keeps.go:459", after := #[{ on := 0, ground := Ground.data }], guard := none }) (v := ?v1) rfl (by kernel_rfl) (by kernel_rfl) (by kernel_rfl) (fun _ _ _ h => h) (Or.inl ⟨by rfl, ?hy1⟩) (by assumption) ?r1
        case hy1 => (intro w hSw; (try dsimp only at hSw); go_simp; (try with_reducible rfl))
        simp only [Act.put, List.setIfInBounds_toArray, List.set]
        refine wpAnyH_take (i := 2) (oi := { dst := some 135, op := Op.move (Operand.tmp 27), type := 4, pos := "keeps.go:459", after := #[{ on := 1, ground := Ground.guard }], guard := some (1, true) }) (v := ?v2) rfl (by kernel_rfl) (by kernel_rfl) (by kernel_rfl) (fun _ _ _ h => h) (Or.inl ⟨by rfl, ?hy2⟩) (by assumption) ?r2
        case hy2 => (intro w hSw; (try dsimp only at hSw); go_simp; (try with_reducible rfl))
        simp only [Act.put, List.setIfInBounds_toArray, List.set]
        refine wpAnyH_take (i := 3) (oi := { dst := some 136, op := Op.pick (Operand.tmp 134) (Operand.tmp 135) (Operand.const (Value.bool false)), type := 4, pos := "keeps.go:459", after := #[{ on := 1, ground := Ground.data }, { on := 2, ground := Ground.data }], guard := none }) (v := ?v3) rfl (by kernel_rfl) (by kernel_rfl) (by kernel_rfl) (fun _ _ _ h => h) (Or.inl ⟨by rfl, ?hy3⟩) (by assumption) ?r3
        case hy3 => (intro w hSw; (try dsimp only at hSw); go_simp; (try with_reducible rfl))
        simp only [Act.put, List.setIfInBounds_toArray, List.set]
        refine wpAnyH_take (i := 4) (oi := { dst := some 137, op := Op.move (Operand.tmp 136), type := 4, pos := "keeps.go:459", after := #[{ on := 3, ground := Ground.data }, { on := 1, ground := Ground.chain }], guard := none }) (v := ?v4) rfl (by kernel_rfl) (by kernel_rfl) (by kernel_rfl) (fun _ _ _ h => h) (Or.inl ⟨by rfl, ?hy4⟩) (by assumption) ?r4
        case hy4 => (intro w hSw; (try dsimp only at hSw); go_simp; (try with_reducible rfl))
        simp only [Act.put, List.setIfInBounds_toArray, List.set]
        refine wpAnyH_take (i := 5) (oi := { dst := some 138, op := Op.move (Operand.tmp 29), type := 4, pos := "keeps.go:459", after := #[{ on := 4, ground := Ground.guard }], guard := some (4, true) }) (v := ?v5) rfl (by kernel_rfl) (by kernel_rfl) (by kernel_rfl) (fun _ _ _ h => h) (Or.inl ⟨by rfl, ?hy5⟩) (by assumption) ?r5
        case hy5 => (intro w hSw; (try dsimp only at hSw); go_simp; (try with_reducible rfl))
        simp only [Act.put, List.setIfInBounds_toArray, List.set]
        refine wpAnyH_take (i := 6) (oi := { dst := some 139, op := Op.pick (Operand.tmp 137) (Operand.tmp 138) (Operand.const (Value.bool false)), type := 4, pos := "keeps.go:459", after := #[{ on := 4, ground := Ground.data }, { on := 5, ground := Ground.data }], guard := none }) (v := ?v6) rfl (by kernel_rfl) (by kernel_rfl) (by kernel_rfl) (fun _ _ _ h => h) (Or.inl ⟨by rfl, ?hy6⟩) (by assumption) ?r6
        case hy6 => (intro w hSw; (try dsimp only at hSw); go_simp; (try with_reducible rfl))
        simp only [Act.put, List.setIfInBounds_toArray, List.set]
        refine wpAnyH_take (i := 7) (oi := { dst := some 140, op := Op.move (Operand.tmp 139), type := 4, pos := "keeps.go:459", after := #[{ on := 6, ground := Ground.data }, { on := 4, ground := Ground.chain }], guard := none }) (v := ?v7) rfl (by kernel_rfl) (by kernel_rfl) (by kernel_rfl) (fun _ _ _ h => h) (Or.inl ⟨by rfl, ?hy7⟩) (by assumption) ?r7
        case hy7 => (intro w hSw; (try dsimp only at hSw); go_simp; (try with_reducible rfl))
        simp only [Act.put, List.setIfInBounds_toArray, List.set]
        refine wpAnyH_take (i := 8) (oi := { dst := some 141, op := Op.move (Operand.tmp 30), type := 4, pos := "keeps.go:459", after := #[{ on := 7, ground := Ground.guard }], guard := some (7, true) }) (v := ?v8) rfl (by kernel_rfl) (by kernel_rfl) (by kernel_rfl) (fun _ _ _ h => h) (Or.inl ⟨by rfl, ?hy8⟩) (by assumption) ?r8
        case hy8 => (intro w hSw; (try dsimp only at hSw); go_simp; (try with_reducible rfl))
        simp only [Act.put, List.setIfInBounds_toArray, List.set]
        refine wpAnyH_take (i := 9) (oi := { dst := some 142, op := Op.pick (Operand.tmp 140) (Operand.tmp 141) (Operand.const (Value.bool false)), type := 4, pos := "keeps.go:459", after := #[{ on := 7, ground := Ground.data }, { on := 8, ground := Ground.data }], guard := none }) (v := ?v9) rfl (by kernel_rfl) (by kernel_rfl) (by kernel_rfl) (fun _ _ _ h => h) (Or.inl ⟨by rfl, ?hy9⟩) (by assumption) ?r9
        case hy9 => (intro w hSw; (try dsimp only at hSw); go_simp; (try with_reducible rfl))
        simp only [Act.put, List.setIfInBounds_toArray, List.set]
        refine wpAnyH_take (i := 10) (oi := { dst := some 143, op := Op.move (Operand.tmp 142), type := 4, pos := "keeps.go:459", after := #[{ on := 9, ground := Ground.data }, { on := 7, ground := Ground.chain }], guard := none }) (v := ?v10) rfl (by kernel_rfl) (by kernel_rfl) (by kernel_rfl) (fun _ _ _ h => h) (Or.inl ⟨by rfl, ?hy10⟩) (by assumption) ?r10
        case hy10 => (intro w hSw; (try dsimp only at hSw); go_simp; (try with_reducible rfl))
        simp only [Act.put, List.setIfInBounds_toArray, List.set]
        refine wpAnyH_take (i := 11) (oi := { dst := some 144, op := Op.move (Operand.tmp 31), type := 4, pos := "keeps.go:459", after := #[{ on := 10, ground := Ground.guard }], guard := some (10, true) }) (v := ?v11) rfl (by kernel_rfl) (by kernel_rfl) (by kernel_rfl) (fun _ _ _ h => h) (Or.inl ⟨by rfl, ?hy11⟩) (by assumption) ?r11
        case hy11 => (intro w hSw; (try dsimp only at hSw); go_simp; (try with_reducible rfl))
        simp only [Act.put, List.setIfInBounds_toArray, List.set]
        refine wpAnyH_take (i := 12) (oi := { dst := some 145, op := Op.pick (Operand.tmp 143) (Operand.tmp 144) (Operand.const (Value.bool false)), type := 4, pos := "keeps.go:459", after := #[{ on := 10, ground := Ground.data }, { on := 11, ground := Ground.data }], guard := none }) (v := ?v12) rfl (by kernel_rfl) (by kernel_rfl) (by kernel_rfl) (fun _ _ _ h => h) (Or.inl ⟨by rfl, ?hy12⟩) (by assumption) ?r12
        case hy12 => (intro w hSw; (try dsimp only at hSw); go_simp; (try with_reducible rfl))
        simp only [Act.put, List.setIfInBounds_toArray, List.set]
        refine wpAnyH_take (i := 13) (oi := { dst := some 146, op := Op.move (Operand.tmp 145), type := 4, pos := "keeps.go:459", after := #[{ on := 12, ground := Ground.data }, { on := 10, ground := Ground.chain }], guard := none }) (v := ?v13) rfl (by kernel_rfl) (by kernel_rfl) (by kernel_rfl) (fun _ _ _ h => h) (Or.inl ⟨by rfl, ?hy13⟩) (by assumption) ?r13
        case hy13 => (intro w hSw; (try dsimp only at hSw); go_simp; (try with_reducible rfl))
        simp only [Act.put, List.setIfInBounds_toArray, List.set]
        refine wpAnyH_take (i := 14) (oi := { dst := some 147, op := Op.move (Operand.tmp 32), type := 4, pos := "keeps.go:459", after := #[{ on := 13, ground := Ground.guard }], guard := some (13, true) }) (v := ?v14) rfl (by kernel_rfl) (by kernel_rfl) (by kernel_rfl) (fun _ _ _ h => h) (Or.inl ⟨by rfl, ?hy14⟩) (by assumption) ?r14
        case hy14 => (intro w hSw; (try dsimp only at hSw); go_simp; (try with_reducible rfl))
        simp only [Act.put, List.setIfInBounds_toArray, List.set]
        refine wpAnyH_take (i := 15) (oi := { dst := some 148, op := Op.pick (Operand.tmp 146) (Operand.tmp 147) (Operand.const (Value.bool false)), type := 4, pos := "keeps.go:459", after := #[{ on := 13, ground := Ground.data }, { on := 14, ground := Ground.data }], guard := none }) (v := ?v15) rfl (by kernel_rfl) (by kernel_rfl) (by kernel_rfl) (fun _ _ _ h => h) (Or.inl ⟨by rfl, ?hy15⟩) (by assumption) ?r15
        case hy15 => (intro w hSw; (try dsimp only at hSw); go_simp; (try with_reducible rfl))
        simp only [Act.put, List.setIfInBounds_toArray, List.set]
        refine wpAnyH_take (i := 16) (oi := { dst := some 149, op := Op.move (Operand.tmp 148), type := 4, pos := "keeps.go:459", after := #[{ on := 15, ground := Ground.data }, { on := 13, ground := Ground.chain }], guard := none }) (v := ?v16) rfl (by kernel_rfl) (by kernel_rfl) (by kernel_rfl) (fun _ _ _ h => h) (Or.inl ⟨by rfl, ?hy16⟩) (by assumption) ?r16
        case hy16 => (intro w hSw; (try dsimp only at hSw); go_simp; (try with_reducible rfl))
        simp only [Act.put, List.setIfInBounds_toArray, List.set]
        refine wpAnyH_take (i := 17) (oi := { dst := some 150, op := Op.move (Operand.tmp 13), type := 28, pos := "keeps.go:459", after := #[{ on := 16, ground := Ground.guard }], guard := some (16, true) }) (v := ?v17) rfl (by kernel_rfl) (by kernel_rfl) (by kernel_rfl) (fun _ _ _ h => h) (Or.inl ⟨by rfl, ?hy17⟩) (by assumption) ?r17
        case hy17 => (intro w hSw; (try dsimp only at hSw); go_simp; (try with_reducible rfl))
        simp only [Act.put, List.setIfInBounds_toArray, List.set]
        refine wpAnyH_take (i := 20) (oi := { dst := some 153, op := Op.move (Operand.tmp 20), type := 45, pos := "keeps.go:459", after := #[{ on := 16, ground := Ground.guard }], guard := some (16, true) }) (v := ?v20) rfl (by kernel_rfl) (by kernel_rfl) (by kernel_rfl) (fun _ _ _ h => h) (Or.inl ⟨by rfl, ?hy20⟩) (by assumption) ?r20
        case hy20 => (intro w hSw; (try dsimp only at hSw); go_simp; (try with_reducible rfl))
        simp only [Act.put, List.setIfInBounds_toArray, List.set]
        refine wpAnyH_take (i := 21) (oi := { dst := some 154, op := Op.convert 45 9 (Operand.tmp 153), type := 9, pos := "keeps.go:459", after := #[{ on := 20, ground := Ground.data }, { on := 16, ground := Ground.guard }], guard := some (16, true) }) (v := ?v21) rfl (by kernel_rfl) (by kernel_rfl) (by kernel_rfl) (fun _ _ _ h => h) (Or.inl ⟨by rfl, ?hy21⟩) (by assumption) ?r21
        case hy21 => (intro w hSw; (try dsimp only at hSw); go_simp; (try with_reducible rfl))
        simp only [Act.put, List.setIfInBounds_toArray, List.set]
        refine wpAnyH_ready (rs := [18]) (by kernel_rfl) (by simp) ?_
        refine AllReadyH.cons (o := { dst := some 151, op := Op.call { callee := Callee.value (Operand.func 25), args := #[Operand.tmp 150], argTypes := #[28] }, type := 45, pos := "keeps.go:459", after := #[{ on := 17, ground := Ground.data }, { on := 16, ground := Ground.chain }, { on := 16, ground := Ground.guard }], guard := some (16, true) }) rfl (fun K hK => ?_) AllReadyH.nil
        go_simp
        refine (unhide HENC _ _ (by first | exact .inl rfl | exact .inr rfl) (unhide HD)).mono ?_
        rintro e w8 ⟨v8, rfl, ho8, hb8⟩
        obtain ⟨pe, ce, rfl, _⟩ := own_slice ho8
        have hd := bel_trans (unhide HD) hb8
        have cvB := conv_rd (P := Tryd.prog) w8 45 5 9 (Rd.owned ho8) Tryd.underlying45 Tryd.underlying5 Tryd.underlying9
        have cvC := conv_rd (P := Tryd.prog) w8 45 5 9 ((unhide HRC).below hd) Tryd.underlying45 Tryd.underlying5 Tryd.underlying9
        rw [unhide HSS] at cvB cvC
        have HD := hide hd
        clear ho8 hb8 hd
        refine hK.out _ _ ?_ (fun hHeld => ?_)
        · exact cvC
        clear hK K
        try simp only [Act.put, List.setIfInBounds_toArray, List.set]
        refine wpAnyH_ready (rs := [19]) (by kernel_rfl) (by simp) ?_
        refine AllReadyH.cons (o := { dst := some 152, op := Op.convert 45 9 (Operand.tmp 151), type := 9, pos := "keeps.go:459", after := #[{ on := 18, ground := Ground.data }, { on := 16, ground := Ground.guard }], guard := some (16, true) }) rfl (fun K hK => ?_) AllReadyH.nil
        go_simp
        refine hK.out _ _ ?_ (fun hHeld => ?_)
        · exact cvC
        clear hK K
        try simp only [Act.put, List.setIfInBounds_toArray, List.set]
        refine wpAnyH_take (i := 22) (oi := { dst := some 155, op := Op.binOp BinOp.eql 9 (Operand.tmp 152) (Operand.tmp 154) 9, type := 4, pos := "keeps.go:459", after := #[{ on := 19, ground := Ground.data }, { on := 21, ground := Ground.data }, { on := 16, ground := Ground.guard }], guard := some (16, true) }) (v := ?v22) rfl (by kernel_rfl) (by kernel_rfl) (by kernel_rfl) (fun _ _ _ h => h) (Or.inl ⟨by rfl, ?hy22⟩) (by assumption) ?r22
        case hy22 => (intro w hSw; (try dsimp only at hSw); go_simp; (try with_reducible rfl))
        simp only [Act.put, List.setIfInBounds_toArray, List.set]
        refine wpAnyH_take (i := 23) (oi := { dst := some 156, op := Op.pick (Operand.tmp 149) (Operand.tmp 155) (Operand.const (Value.bool false)), type := 4, pos := "keeps.go:459", after := #[{ on := 16, ground := Ground.data }, { on := 22, ground := Ground.data }], guard := none }) (v := ?v23) rfl (by kernel_rfl) (by kernel_rfl) (by kernel_rfl) (fun _ _ _ h => h) (Or.inl ⟨by rfl, ?hy23⟩) (by assumption) ?r23
        case hy23 => (intro w hSw; (try dsimp only at hSw); go_simp; (try with_reducible rfl))
        simp only [Act.put, List.setIfInBounds_toArray, List.set]
        refine wpAnyH_take (i := 24) (oi := { dst := some 157, op := Op.move (Operand.tmp 156), type := 4, pos := "keeps.go:459", after := #[{ on := 23, ground := Ground.data }, { on := 18, ground := Ground.chain }], guard := none }) (v := ?v24) rfl (by kernel_rfl) (by kernel_rfl) (by kernel_rfl) (fun _ _ _ h => h) (Or.inl ⟨by rfl, ?hy24⟩) (by assumption) ?r24
        case hy24 => (intro w hSw; (try dsimp only at hSw); go_simp; (try with_reducible rfl))
        simp only [Act.put, List.setIfInBounds_toArray, List.set]
        refine wpAnyH_take (i := 25) (oi := { dst := some 158, op := Op.move (Operand.tmp 21), type := 28, pos := "keeps.go:459", after := #[{ on := 24, ground := Ground.guard }], guard := some (24, true) }) (v := ?v25) rfl (by kernel_rfl) (by kernel_rfl) (by kernel_rfl) (fun _ _ _ h => h) (Or.inl ⟨by rfl, ?hy25⟩) (by assumption) ?r25
        case hy25 => (intro w hSw; (try dsimp only at hSw); go_simp; (try with_reducible rfl))
        simp only [Act.put, List.setIfInBounds_toArray, List.set]
        refine wpAnyH_take (i := 28) (oi := { dst := some 161, op := Op.move (Operand.tmp 20), type := 45, pos := "keeps.go:459", after := #[{ on := 24, ground := Ground.guard }], guard := some (24, true) }) (v := ?v28) rfl (by kernel_rfl) (by kernel_rfl) (by kernel_rfl) (fun _ _ _ h => h) (Or.inl ⟨by rfl, ?hy28⟩) (by assumption) ?r28
        case hy28 => (intro w hSw; (try dsimp only at hSw); go_simp; (try with_reducible rfl))
        simp only [Act.put, List.setIfInBounds_toArray, List.set]
        refine wpAnyH_take (i := 29) (oi := { dst := some 162, op := Op.convert 45 9 (Operand.tmp 161), type := 9, pos := "keeps.go:459", after := #[{ on := 28, ground := Ground.data }, { on := 24, ground := Ground.guard }], guard := some (24, true) }) (v := ?v29) rfl (by kernel_rfl) (by kernel_rfl) (by kernel_rfl) (fun _ _ _ h => h) (Or.inl ⟨by rfl, ?hy29⟩) (by assumption) ?r29
        case hy29 => (intro w hSw; (try dsimp only at hSw); go_simp; (try with_reducible rfl))
        simp only [Act.put, List.setIfInBounds_toArray, List.set]
        refine wpAnyH_ready (rs := [26]) (by kernel_rfl) (by simp) ?_
        refine AllReadyH.cons (o := { dst := some 159, op := Op.call { callee := Callee.value (Operand.func 25), args := #[Operand.tmp 158], argTypes := #[28] }, type := 45, pos := "keeps.go:459", after := #[{ on := 25, ground := Ground.data }, { on := 24, ground := Ground.chain }, { on := 24, ground := Ground.guard }], guard := some (24, true) }) rfl (fun K hK => ?_) AllReadyH.nil
        go_simp
        refine (unhide HENC _ _ (by first | exact .inl rfl | exact .inr rfl) (unhide HD)).mono ?_
        rintro e w8 ⟨v8, rfl, ho8, hb8⟩
        obtain ⟨pe, ce, rfl, _⟩ := own_slice ho8
        have hd := bel_trans (unhide HD) hb8
        have cvB := conv_rd (P := Tryd.prog) w8 45 5 9 (Rd.owned ho8) Tryd.underlying45 Tryd.underlying5 Tryd.underlying9
        have cvC := conv_rd (P := Tryd.prog) w8 45 5 9 ((unhide HRC).below hd) Tryd.underlying45 Tryd.underlying5 Tryd.underlying9
        rw [unhide HSS] at cvB cvC
        have HD := hide hd
        clear ho8 hb8 hd
        refine hK.out _ _ ?_ (fun hHeld => ?_)
        · exact cvC
        clear hK K
        try simp only [Act.put, List.setIfInBounds_toArray, List.set]
        refine wpAnyH_ready (rs := [27]) (by kernel_rfl) (by simp) ?_
        refine AllReadyH.cons (o := { dst := some 160, op := Op.convert 45 9 (Operand.tmp 159), type := 9, pos := "keeps.go:459", after := #[{ on := 26, ground := Ground.data }, { on := 24, ground := Ground.guard }], guard := some (24, true) }) rfl (fun K hK => ?_) AllReadyH.nil
        go_simp
        refine hK.out _ _ ?_ (fun hHeld => ?_)
        · exact cvC
        clear hK K
        try simp only [Act.put, List.setIfInBounds_toArray, List.set]
        refine wpAnyH_take (i := 30) (oi := { dst := some 163, op := Op.binOp BinOp.eql 9 (Operand.tmp 160) (Operand.tmp 162) 9, type := 4, pos := "keeps.go:459", after := #[{ on := 27, ground := Ground.data }, { on := 29, ground := Ground.data }, { on := 24, ground := Ground.guard }], guard := some (24, true) }) (v := ?v30) rfl (by kernel_rfl) (by kernel_rfl) (by kernel_rfl) (fun _ _ _ h => h) (Or.inl ⟨by rfl, ?hy30⟩) (by assumption) ?r30
        case hy30 => (intro w hSw; (try dsimp only at hSw); go_simp; (try with_reducible rfl))
        simp only [Act.put, List.setIfInBounds_toArray, List.set]
        refine wpAnyH_take (i := 31) (oi := { dst := some 164, op := Op.pick (Operand.tmp 157) (Operand.tmp 163) (Operand.const (Value.bool false)), type := 4, pos := "keeps.go:459", after := #[{ on := 24, ground := Ground.data }, { on := 30, ground := Ground.data }], guard := none }) (v := ?v31) rfl (by kernel_rfl) (by kernel_rfl) (by kernel_rfl) (fun _ _ _ h => h) (Or.inl ⟨by rfl, ?hy31⟩) (by assumption) ?r31
        case hy31 => (intro w hSw; (try dsimp only at hSw); go_simp; (try with_reducible rfl))
        simp only [Act.put, List.setIfInBounds_toArray, List.set]
        refine wpAnyH_take (i := 32) (oi := { dst := some 8, op := Op.assign (Operand.tmp 164), type := 4, pos := "keeps.go:459", after := #[{ on := 31, ground := Ground.data }, { on := 26, ground := Ground.chain }, { on := 0, ground := Ground.phase }, { on := 1, ground := Ground.phase }, { on := 2, ground := Ground.phase }, { on := 3, ground := Ground.phase }, { on := 4, ground := Ground.phase }, { on := 5, ground := Ground.phase }, { on := 6, ground := Ground.phase }, { on := 7, ground := Ground.phase }, { on := 8, ground := Ground.phase }, { on := 9, ground := Ground.phase }, { on := 10, ground := Ground.phase }, { on := 11, ground := Ground.phase }, { on := 12, ground := Ground.phase }, { on := 13, ground := Ground.phase }, { on := 14, ground := Ground.phase }, { on := 15, ground := Ground.phase }, { on := 16, ground := Ground.phase }, { on := 17, ground := Ground.phase }, { on := 18, ground := Ground.phase }, { on := 19, ground := Ground.phase }, { on := 20, ground := Ground.phase }, { on := 21, ground := Ground.phase }, { on := 22, ground := Ground.phase }, { on := 23, ground := Ground.phase }, { on := 24, ground := Ground.phase }, { on := 25, ground := Ground.phase }, { on := 26, ground := Ground.phase }, { on := 27, ground := Ground.phase }, { on := 28, ground := Ground.phase }, { on := 29, ground := Ground.phase }, { on := 30, ground := Ground.phase }, { on := 31, ground := Ground.phase }], guard := none }) (v := ?v32) rfl (by kernel_rfl) (by kernel_rfl) (by kernel_rfl) (fun _ _ _ h => h) (Or.inl ⟨by rfl, ?hy32⟩) (by assumption) ?r32
        case hy32 => (intro w hSw; (try dsimp only at hSw); go_simp; (try with_reducible rfl))
        simp only [Act.put, List.setIfInBounds_toArray, List.set]
        refine wpAnyH_done (by kernel_rfl) ?_ _
        go_wp2
        go_ret
        exact ⟨ret_bool (by simp), bel_trans (unhide HBW) (unhide HD)⟩
end Kp
end Go.Proofs.YtolkjadklbchfaaDoor
