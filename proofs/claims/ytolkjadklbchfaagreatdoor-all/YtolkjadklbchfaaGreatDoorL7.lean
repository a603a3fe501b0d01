import Derived.Test.YtolkjadklbchfaaGreatDoorL6
import Derived.Test.YtolkjadklbchfaaGreatDoorL5
import Derived.Deep.RegionWith
/- Walks of the law: step, every kind. -/
open Go Go.RowKit
namespace Go.Proofs.YtolkjadklbchfaaGreatDoor
namespace Lw
open Mem Rf Pr Ld

theorem str_size (xs : List Nat) : (str xs).size = xs.length := by rw [str, strOfNums_size, List.length_map]

set_option maxHeartbeats 4000000 in
theorem step_load (base U : Nat) (W0 w : World) (xv yv bv : Value) (is : List It) (bs : List Bk) (h : WSt base U W0 w xv yv bv is bs) (d : OpD) (hS : d.S.size ≤ 140737488351232) (hK : d.K = 12) (hT : Tab W0) (hU : Bru W0) (hb0 : 2 ≤ base) :
    Calls Tryz.prog 8 #[.pointer (some ⟨U, 0, none⟩), .agg #[.int .i64 d.K, .int .i64 d.A, .int .i64 d.B, .int .i64 d.C, .int .i64 d.D, .int .u64 d.u, .int .u64 d.x, .slice d.pv d.n d.cv, .slice d.pm d.m d.cm, .string d.S]] w
      fun e w' => e = .returned (.bool true) ∧ ∃ xv' yv' bv' is' bs', WSt base U W0 w' xv' yv' bv' is' bs' ∧ bs'.length ≤ bs.length + 1 := by
  obtain ⟨K, A, B, C, D, u, x, pv, n, cv, pm, m, cm, S, vs, ms⟩ := d
  simp only at *
  subst hK
  have HB := hide (fun o => loaded_any base U W0 (w.alloc o) xv yv bv is bs (h.below (alloc_below w o)) S hS (hT.below (h.below (alloc_below w o)).bel (by omega)) (hU.below (h.below (alloc_below w o)).bel (by omega)))
  clear h hT hU
  go_enter Tryz.func8, Tryz.ntmps8
  go_wp2_with fail
  refine (unhide HB _).mono ?_
  rintro e w1 ⟨rfl, xv', yv', is', hst⟩
  have HS := hide hst
  clear hst
  go_wp2
  go_ret
  exact ⟨rfl, xv', yv', bv, is', bs, unhide HS, by omega⟩

set_option maxHeartbeats 4000000 in
theorem step_again (base U : Nat) (W0 w : World) (xv yv bv : Value) (is : List It) (bs : List Bk) (h : WSt base U W0 w xv yv bv is bs) (d : OpD) (ain : -9223372036854775808 ≤ d.A ∧ d.A ≤ 9223372036854775807) (hK : d.K = 13) (hT : Tab W0) (hU : Bru W0) (hb0 : 2 ≤ base) :
    Calls Tryz.prog 8 #[.pointer (some ⟨U, 0, none⟩), .agg #[.int .i64 d.K, .int .i64 d.A, .int .i64 d.B, .int .i64 d.C, .int .i64 d.D, .int .u64 d.u, .int .u64 d.x, .slice d.pv d.n d.cv, .slice d.pm d.m d.cm, .string d.S]] w
      fun e w' => e = .returned (.bool true) ∧ ∃ xv' yv' bv' is' bs', WSt base U W0 w' xv' yv' bv' is' bs' ∧ bs'.length ≤ bs.length + 1 := by
  obtain ⟨K, A, B, C, D, u, x, pv, n, cv, pm, m, cm, S, vs, ms⟩ := d
  simp only at *
  subst hK
  have hw1 : ∀ o, WSt base U W0 (w.alloc o) xv yv bv is bs := fun o => h.below (alloc_below w o)
  have hc0 : ∀ o, (w.alloc o).cell? ⟨U, 0, none⟩ = some xv := fun o => (hw1 o).cells.1
  have hl6 := h.ilen
  by_cases he : is.length = 0
  · obtain ⟨px, cx, rfl, hcx⟩ := own_slice h.ox
    have HS := hide hw1
    clear h hw1
    go_enter Tryz.func8, Tryz.ntmps8
    go_wp2
    go_ret
    exact ⟨rfl, _, yv, bv, is, bs, unhide HS _, by omega⟩
  · have hne : ((is.length : Int) == 0) = false := by rw [beq_eq_false_iff_ne]; omega
    obtain ⟨k, hk, hp⟩ := pick_fix A is.length (by omega) (by omega) ain
    have HP := hide hp
    obtain ⟨gx, cx, rfl, hcx, _, hgx, _⟩ := own_form2 h.ox (by omega)
    obtain ⟨gy, cy, rfl, hcy, _, hgy, hyc⟩ := own_form2 h.oy (by omega)
    have hit := h.its is[k] (List.getElem_mem hk)
    obtain ⟨pv1, cv1, hV, _⟩ := hit.rv.1.form
    obtain ⟨pm1, cm1, hM, _⟩ := hit.rm.1.form
    rw [U64_len] at hV
    rw [NI_len] at hM
    have hyk := hyc _ _ (refs_at is k hk).1
    have hyk2 := hyc _ _ (refs_at is k hk).2
    rw [hV] at hyk
    rw [hM] at hyk2
    have hul := h.ult
    have rv : Rd w.heap.size w (.slice pv1 is[k].vs.length cv1) (U64 is[k].vs) := by rw [← hV]; exact hit.rv.1
    have rm : Rd w.heap.size w (.slice pm1 is[k].ms.length cm1) (I64 (NI is[k].ms)) := by rw [← hM]; exact hit.rm.1
    have hfit := hit.fit
    have hes := encode_small hfit
    -- what holds in any later world
    have HX : Hid (∀ w' : World, Below w.heap.size w w' → w'.cell? ⟨U, 1, none⟩ = some (.slice (some ⟨gy, 0, none⟩) is.length cy) ∧ w'.cell? ⟨gy, k * 2, none⟩ = some (.slice pv1 is[k].vs.length cv1) ∧ w'.cell? ⟨gy, k * 2 + 1, none⟩ = some (.slice pm1 is[k].ms.length cm1)) :=
      fun w' hb => ⟨(hb.cell (p := ⟨U, 1, none⟩) hul).trans h.cells.2.1, (hb.cell (p := ⟨gy, k * 2, none⟩) hgy).trans hyk, (hb.cell (p := ⟨gy, k * 2 + 1, none⟩) hgy).trans hyk2⟩
    have HEN : Hid (∀ w' : World, Below w.heap.size w w' → Calls Tryz.prog 16 #[.slice pv1 is[k].vs.length cv1, .slice pm1 is[k].ms.length cm1] w' (Gives w' 5 (By (Sp.encode is[k].vs is[k].ms)))) :=
      fun w' hb => Rf.encode_any pv1 _ cv1 is[k].vs pm1 _ cm1 is[k].ms w.heap.size w' (rv.below hb) (rm.below hb) hb.size hfit.big hfit.mlt (by have := hfit.len; omega) (by have := hfit.len; have := hfit.mlen; omega)
    have HLD : Hid (∀ w' : World, Below w.heap.size w w' → Calls Tryz.prog 14 #[.pointer (some ⟨U, 0, none⟩), .string (str (Sp.encode is[k].vs is[k].ms))] w' fun e w2 => e = .returned (.bool true) ∧ ∃ xv' yv' is', WSt base U W0 w2 xv' yv' bv is' bs) :=
      fun w' hb => loaded_any base U W0 w' _ _ bv is bs (h.below hb) _ (by rw [str_size]; omega) (hT.below (h.below hb).bel (by omega)) (hU.below (h.below hb).bel (by omega))
    clear h hw1 hit hyc hV hM hyk hyk2 rv rm hfit hp hT hU
    generalize hEE : Sp.encode is[k].vs is[k].ms = E at *
    generalize is[k].vs.length = lv at *
    generalize is[k].ms.length = lm at *
    clear hEE
    go_enter Tryz.func8, Tryz.ntmps8
    go_wp2_with fail
    go_quiet ((go_at_call 15; exact Calls.quiet_of_same (unhide HP _)))
    go_wp2_with fail
    have hb2 : ∀ (o : Obj) (q : Nat), Below w.heap.size w ((w.alloc o).drewN q) := fun o q => (alloc_below w o).trans ((drewN_below (w.alloc o) q).mono (by simp))
    generalize hw2 : (w.alloc _).drewN nq = w2
    have hb2' : Below w.heap.size w w2 := by rw [← hw2]; exact hb2 _ _
    obtain ⟨y1, y2, y3⟩ := unhide HX w2 hb2'
    have HB2 := hide hb2'
    clear hw2 hb2 hb2' HX
    go_region_with (first
      | (go_at_call 16; refine (unhide HEN w2.drew (unhide HB2).drew).mono ?_; rintro e w3 ⟨v3, rfl, ho3, hb3⟩; rw [By_len] at ho3; obtain ⟨p3, c3, rfl, _⟩ := own_slice ho3; have hcv := conv_rd (P := Tryz.prog) w3 49 5 9 (Rd.owned ho3) Tryz.underlying49 Tryz.underlying5 Tryz.underlying9; have HB3 := hide (bel_trans (unhide HB2).drew hb3); clear ho3 hb3)
      | (go_at_call 14; refine (unhide HLD w3 (unhide HB3)).mono ?_; rintro e w4 ⟨rfl, xv', yv', is', hst⟩; have HST := hide hst; clear hst))
    all_goals
      go_wp2
      go_ret
      exact ⟨rfl, xv', yv', bv, is', bs, unhide HST, by omega⟩

/-- A step of any kind. -/
theorem step_all (base U : Nat) (W0 w : World) (xv yv bv : Value) (is : List It) (bs : List Bk) (h : WSt base U W0 w xv yv bv is bs) (d : OpD) (hd : OpOk base w d) (hS : d.S.size ≤ 140737488351232) (hK : d.K ≤ 13) (hbs : bs.length ≤ 1300000000000) (hT : Tab W0) (hU : Bru W0) (hb0 : 2 ≤ base) :
    Calls Tryz.prog 8 #[.pointer (some ⟨U, 0, none⟩), .agg #[.int .i64 d.K, .int .i64 d.A, .int .i64 d.B, .int .i64 d.C, .int .i64 d.D, .int .u64 d.u, .int .u64 d.x, .slice d.pv d.n d.cv, .slice d.pm d.m d.cm, .string d.S]] w
      fun e w' => e = .returned (.bool true) ∧ ∃ xv' yv' bv' is' bs', WSt base U W0 w' xv' yv' bv' is' bs' ∧ bs'.length ≤ bs.length + 1 := by
  by_cases h12 : d.K = 12
  · exact step_load base U W0 w xv yv bv is bs h d hS h12 hT hU hb0
  · by_cases h13 : d.K = 13
    · exact step_again base U W0 w xv yv bv is bs h d hd.ain h13 hT hU hb0
    · exact step_any base U W0 w xv yv bv is bs h d hd (by omega) hbs hT hU hb0
end Lw
end Go.Proofs.YtolkjadklbchfaaGreatDoor
/- Walks of the law: plays with every kind; All. -/
open Go Go.RowKit
namespace Go.Proofs.YtolkjadklbchfaaGreatDoor
namespace Lw
open Mem Rf Pr

set_option maxHeartbeats 1000000 in
theorem plays_all (w : World) (ps : Option Addr) (L cs : Nat) (ds : List OpD) (top : Int) (htop : top ≤ 13) (hs : Scr w.heap.size w ps ds) (hSS : ∀ d ∈ ds, d.S.size ≤ 140737488351232) (hL : L = ds.length) (hL2 : L ≤ 1200000000000) (hT : Tab w) (hU : Bru w) :
    Calls Tryz.prog 6 #[.slice ps L cs, .int .i64 top] w fun e w' => e = .returned (.bool true) ∧ Below w.heap.size w w' := by
  have HSC := hide hs
  have HSS := hide hSS
  have HT := hide hT
  have h0 : 2 ≤ w.heap.size := by have := hT.1; have := hU.1; omega
  have HU := hide hU
  subst hL
  have HF := hide (first_any w)
  clear hs hSS hT hU
  go_enter Tryz.func6, Tryz.ntmps6
  go_wp2_with fail
  refine (unhide HF).mono ?_
  rintro e w1 ⟨rfl, hst⟩
  have HS := hide hst
  clear hst HF
  go_wp2_with fail
  go_loopw [6, 7, 8] (fun ok ii _ wr => ∃ k : Nat, k ≤ ds.length ∧ ii = .int .i64 k ∧ ok = .bool true ∧ PSt w wr k) (fun _ ii _ _ => ds.length - (intOf ii).toNat)
  case atStart => exact ⟨0, Nat.zero_le _, rfl, rfl, unhide HS⟩
  case round =>
    obtain ⟨k, hk, rfl, rfl, hst⟩ := hrel
    clear HS
    by_cases hlt : k < ds.length
    · obtain ⟨b, o, hpe, hb, hcs⟩ := (unhide HSC).cells k hlt
      subst hpe
      obtain ⟨xv, yv, bv, is, bs, hw, hbl⟩ := hst
      have hcw : ∀ j u, (opc ds[k])[j]? = some u → wr.cell? ⟨b, o + k * 10 + j, none⟩ = some u := fun j u hu => (hw.bel.cell (p := ⟨b, o + k * 10 + j, none⟩) hb).trans (hcs j u hu)
      have e0 : wr.cell? ⟨b, o + k * 10, none⟩ = some (.int .i64 ds[k].K) := hcw 0 _ rfl
      have e1 := hcw 1 _ rfl
      have e2 := hcw 2 _ rfl
      have e3 := hcw 3 _ rfl
      have e4 := hcw 4 _ rfl
      have e5 := hcw 5 _ rfl
      have e6 := hcw 6 _ rfl
      have e7 := hcw 7 _ rfl
      have e8 := hcw 8 _ rfl
      have e9 := hcw 9 _ rfl
      have hok := ((unhide HSC).ok ds[k] (List.getElem_mem hlt)).below hw.bel
      by_cases hK : ds[k].K ≤ top
      · have HST := hide (step_all _ _ _ wr xv yv bv is bs hw ds[k] hok (unhide HSS _ (List.getElem_mem hlt)) (by omega) (by omega) (unhide HT) (unhide HU) h0)
        have hKi : ¬ top < ds[k].K := by omega
        clear hcs hcw hok hw
        generalize ds[k] = d at *
        go_wp2_with fail
        refine (unhide HST).mono ?_
        rintro e w2 ⟨rfl, xv', yv', bv', is', bs', hw2, hb2⟩
        have HLK := hide (looks_any _ _ _ w2 xv' yv' bv' is' bs' hw2 (by omega))
        have HW2 := hide hw2
        clear hw2 HST
        go_wp2_with fail
        refine (unhide HLK).mono ?_
        rintro e w3 ⟨rfl, hb3⟩
        have HP : Hid (PSt w w3 (k + 1)) := ⟨xv', yv', bv', is', bs', (unhide HW2).below hb3, by omega⟩
        clear hb3 HW2 HLK
        go_wp2
        go_roundw
        case rel => exact ⟨k + 1, by omega, by go_num, rfl, unhide HP⟩
        case measure => simp [intOf]; omega
      · have hKi : top < ds[k].K := by omega
        have HP : Hid (PSt w wr (k + 1)) := ⟨xv, yv, bv, is, bs, hw, by omega⟩
        clear hcs hcw hok hw
        generalize ds[k] = d at *
        go_wp2
        go_roundw
        case rel => exact ⟨k + 1, by omega, by go_num, rfl, unhide HP⟩
        case measure => simp [intOf]; omega
    · obtain ⟨xv, yv, bv, is, bs, hw, hbl⟩ := hst
      have hbl2 : bs.length ≤ ds.length := by omega
      clear hbl HSC
      have HW := hide hw
      clear hw
      go_wp2_with fail
      go_loopw [6, 9] (fun ok ii wt => ∃ j : Nat, j ≤ is.length ∧ ii = .int .i64 j ∧ ok = .bool true ∧ ∃ bv' bs', WSt w.heap.size w.heap.size w wt xv yv bv' is bs' ∧ bs'.length ≤ ds.length + j) (fun _ ii _ => is.length - (intOf ii).toNat)
      case atStart => exact ⟨0, Nat.zero_le _, rfl, rfl, bv, bs, unhide HW, by omega⟩
      case round =>
        obtain ⟨j, hj, rfl, rfl, bv', bs', hw2, hb2⟩ := hrel
        clear HW
        have hl6 := hw2.ilen
        obtain ⟨c0, _, _, _⟩ := hw2.cells
        obtain ⟨px, cx, hxe, hcx⟩ := own_slice hw2.ox
        subst hxe
        by_cases hjl : j < is.length
        · have HE := hide (encoded_any _ _ _ _ _ _ _ _ _ j hw2 hjl (by omega) (unhide HT) h0)
          clear hw2
          go_wp2_with fail
          refine (unhide HE).mono ?_
          rintro e w3 ⟨rfl, bv3, bs3, hw3, hb3⟩
          have HP : Hid (∃ bv' bs', WSt w.heap.size w.heap.size w w3 (.slice px is.length cx) yv bv' is bs' ∧ bs'.length ≤ ds.length + (j + 1)) := ⟨bv3, bs3, hw3, by omega⟩
          clear hw3 HE
          go_wp2
          go_roundw
          case rel => exact ⟨j + 1, by omega, by go_num, rfl, unhide HP⟩
          case measure => simp [intOf]; omega
        · have HB := hide hw2.bel
          clear hw2
          go_wp2
          all_goals go_ret
          all_goals exact ⟨rfl, unhide HB⟩

set_option maxHeartbeats 4000000 in
theorem all_any (w : World) (ps : Option Addr) (L cs : Nat) (ds : List OpD) (hs : Scr w.heap.size w ps ds) (hSS : ∀ d ∈ ds, d.S.size ≤ 140737488351232) (hL : L = ds.length) (hL2 : L ≤ 1200000000000) (hT : Tab w) (hU : Bru w) :
    Calls Tryz.prog 5 #[.slice ps L cs] w fun e w' => e = .returned (.bool true) ∧ Below w.heap.size w w' := by
  have HP := hide (plays_all w ps L cs ds 13 (by omega) hs hSS hL hL2 hT hU)
  clear hs hSS hT hU hL hL2
  go_enter Tryz.func5, Tryz.ntmps5
  go_wp2_with fail
  refine (unhide HP).mono ?_
  rintro e w1 ⟨rfl, hb⟩
  have HB := hide hb
  clear hb HP
  go_wp2
  all_goals go_ret
  all_goals exact ⟨rfl, unhide HB⟩
end Lw
end Go.Proofs.YtolkjadklbchfaaGreatDoor
