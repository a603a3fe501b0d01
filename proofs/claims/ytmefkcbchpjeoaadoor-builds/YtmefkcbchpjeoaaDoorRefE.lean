/- Walks: Layers. -/
import Derived.Test.YtmefkcbchpjeoaaDoorRefC
open Go Go.RowKit
namespace Go.Proofs.YtmefkcbchpjeoaaDoor
namespace Rf
open Mem

/-- What the inner loop holds behind i values: the bits, the zeros, the ones. -/
def zer (now : List Nat) (k i : Nat) : List Nat := (now.take i).filter (fun v => !v.testBit k)
def one (now : List Nat) (k i : Nat) : List Nat := (now.take i).filter (fun v => v.testBit k)
def bts (now : List Nat) (k i : Nat) : List Bool := (now.take i).map (fun v => v.testBit k)

theorem zer_le (now : List Nat) (k i : Nat) : (zer now k i).length ≤ i := Nat.le_trans (List.length_filter_le _ _) (List.length_take_le _ _)
theorem one_le (now : List Nat) (k i : Nat) : (one now k i).length ≤ i := Nat.le_trans (List.length_filter_le _ _) (List.length_take_le _ _)
theorem bts_snoc {now : List Nat} {k i : Nat} (h : i < now.length) : bts now k (i + 1) = bts now k i ++ [now[i].testBit k] := by
  unfold bts; rw [take_snoc _ _ h, List.map_append]; rfl
theorem zer_snoc {now : List Nat} {k i : Nat} (h : i < now.length) : zer now k (i + 1) = zer now k i ++ (if now[i].testBit k then [] else [now[i]]) := by
  unfold zer; rw [take_snoc _ _ h, List.filter_append]; congr 1; cases hb : now[i].testBit k <;> simp [hb]
theorem one_snoc {now : List Nat} {k i : Nat} (h : i < now.length) : one now k (i + 1) = one now k i ++ (if now[i].testBit k then [now[i]] else []) := by
  unfold one; rw [take_snoc _ _ h, List.filter_append]; congr 1; cases hb : now[i].testBit k <;> simp [hb]

theorem and1_u64 (x : Nat) (hx : x < 18446744073709551616) (j : Nat) : (bits BinOp.and IntKind.u64 ((x : Int) / 2 ^ j) 1 == 1) = x.testBit j := by
  have e : ((x : Int) / 2 ^ j) = ((x / 2 ^ j : Nat) : Int) := by simp
  have hlt : x / 2 ^ j < 18446744073709551616 := Nat.lt_of_le_of_lt (Nat.div_le_self _ _) hx
  rw [e, show (1 : Int) = ((1 : Nat) : Int) from rfl, u64_and_nat _ _ hlt (by omega), Nat.and_one_is_mod, Nat.testBit_eq_decide_div_mod_eq]
  rw [Bool.eq_iff_iff]
  simp only [beq_iff_eq, decide_eq_true_eq]
  omega

/-- The inner loop's state. -/
structure LyIn (base : Nat) (w wr : World) (now : List Nat) (no : Value) (B' : Nat) (done : List Bool) (k i : Nat) (ou ze on : Value) : Prop where
  rd : Rd B' wr no (U64 now)
  sz : B' ≤ wr.heap.size
  o1 : wr.ownsRow base 4 1 ou (done.length + i) (Bo (done ++ bts now k i))
  o2 : wr.ownsRow base 34 1 ze (zer now k i).length (U64 (zer now k i))
  o3 : wr.ownsRow base 34 1 on (one now k i).length (U64 (one now k i))
  a1 : Ap no ou
  a2 : Ap no ze
  a3 : Ap no on
  a4 : Ap ou ze
  a5 : Ap ou on
  a6 : Ap ze on
  bel : Below base w wr

theorem LyIn.bit {base : Nat} {w wr w1 : World} {now : List Nat} {no : Value} {B' : Nat} {done : List Bool} {k i : Nat} {ou ze on ou' : Value} {o : Obj} {b : Bool} (h : LyIn base w wr now no B' done k i ou ze on) (hb0 : base ≤ w.heap.size) (hi : i < now.length) (hbv : now[i].testBit k = b)
    (hown : w1.ownsRow base 4 1 ou' (done.length + i + [Value.bool b].length) (Bo (done ++ bts now k i) ++ [Value.bool b])) (hg : (wr.alloc o).grownBy w1 ou.ownBlock) (hat : ou'.ownBlock = ou.ownBlock ∨ ou'.ownBlock = some (wr.alloc o).heap.size) :
    Rd B' w1 no (U64 now) ∧ B' ≤ w1.heap.size ∧ w1.ownsRow base 4 1 ou' (done.length + (i + 1)) (Bo (done ++ bts now k (i + 1))) ∧ w1.ownsRow base 34 1 ze (zer now k i).length (U64 (zer now k i)) ∧ w1.ownsRow base 34 1 on (one now k i).length (U64 (one now k i)) ∧
      Ap no ou' ∧ Ap no ze ∧ Ap no on ∧ Ap ou' ze ∧ Ap ou' on ∧ Ap ze on ∧ Below base w w1 := by
  have r1 := app_rd h.rd (U64_ne hi) h.sz h.a1 hg hat
  have r2 := app_own h.o2 h.a4.symm hg hat
  have r3 := app_own h.o3 h.a5.symm hg hat
  have r4 := app_below h.bel hb0 h.o1 hg
  refine ⟨r1.1, by have := h.sz; omega, ?_, r2.1, r3.1, r1.2, h.a2, h.a3, r2.2.symm, r3.2.symm, h.a6, r4.1⟩
  rw [bts_snoc hi, hbv, ← List.append_assoc, Bo_app (done ++ bts now k i)]
  exact hown

theorem LyIn.nul {base : Nat} {w w1 w2 : World} {now : List Nat} {no : Value} {B' : Nat} {done : List Bool} {k i : Nat} {ou ze on ze' : Value} {o : Obj} (hb0 : base ≤ w.heap.size) (hi : i < now.length) (hbv : now[i].testBit k = false)
    (h : Rd B' w1 no (U64 now) ∧ B' ≤ w1.heap.size ∧ w1.ownsRow base 4 1 ou (done.length + (i + 1)) (Bo (done ++ bts now k (i + 1))) ∧ w1.ownsRow base 34 1 ze (zer now k i).length (U64 (zer now k i)) ∧ w1.ownsRow base 34 1 on (one now k i).length (U64 (one now k i)) ∧
      Ap no ou ∧ Ap no ze ∧ Ap no on ∧ Ap ou ze ∧ Ap ou on ∧ Ap ze on ∧ Below base w w1)
    (hown : w2.ownsRow base 34 1 ze' ((zer now k i).length + [Value.int .u64 (now[i] : Int)].length) (U64 (zer now k i) ++ [Value.int .u64 (now[i] : Int)])) (hg : (w1.alloc o).grownBy w2 ze.ownBlock) (hat : ze'.ownBlock = ze.ownBlock ∨ ze'.ownBlock = some (w1.alloc o).heap.size) :
    LyIn base w w2 now no B' done k (i + 1) ou ze' on := by
  obtain ⟨h1, h2, h3, h4, h5, a1, a2, a3, a4, a5, a6, hbel⟩ := h
  have r1 := app_rd h1 (U64_ne hi) h2 a2 hg hat
  have r2 := app_own h3 a4 hg hat
  have r3 := app_own h5 a6.symm hg hat
  have r4 := app_below hbel hb0 h4 hg
  refine ⟨r1.1, by omega, r2.1, ?_, ?_, a1, r1.2, a3, r2.2, a5, r3.2.symm, r4.1⟩
  · rw [zer_snoc hi, hbv, if_neg (by simp), U64_app, List.length_append]
    exact hown
  · rw [one_snoc hi, hbv, if_neg (by simp), List.append_nil]
    exact r3.1

theorem LyIn.ein {base : Nat} {w w1 w2 : World} {now : List Nat} {no : Value} {B' : Nat} {done : List Bool} {k i : Nat} {ou ze on on' : Value} {o : Obj} (hb0 : base ≤ w.heap.size) (hi : i < now.length) (hbv : now[i].testBit k = true)
    (h : Rd B' w1 no (U64 now) ∧ B' ≤ w1.heap.size ∧ w1.ownsRow base 4 1 ou (done.length + (i + 1)) (Bo (done ++ bts now k (i + 1))) ∧ w1.ownsRow base 34 1 ze (zer now k i).length (U64 (zer now k i)) ∧ w1.ownsRow base 34 1 on (one now k i).length (U64 (one now k i)) ∧
      Ap no ou ∧ Ap no ze ∧ Ap no on ∧ Ap ou ze ∧ Ap ou on ∧ Ap ze on ∧ Below base w w1)
    (hown : w2.ownsRow base 34 1 on' ((one now k i).length + [Value.int .u64 (now[i] : Int)].length) (U64 (one now k i) ++ [Value.int .u64 (now[i] : Int)])) (hg : (w1.alloc o).grownBy w2 on.ownBlock) (hat : on'.ownBlock = on.ownBlock ∨ on'.ownBlock = some (w1.alloc o).heap.size) :
    LyIn base w w2 now no B' done k (i + 1) ou ze on' := by
  obtain ⟨h1, h2, h3, h4, h5, a1, a2, a3, a4, a5, a6, hbel⟩ := h
  have r1 := app_rd h1 (U64_ne hi) h2 a3 hg hat
  have r2 := app_own h3 a5 hg hat
  have r3 := app_own h4 a6 hg hat
  have r4 := app_below hbel hb0 h5 hg
  refine ⟨r1.1, by omega, r2.1, ?_, ?_, a1, a2, r1.2, a4, r2.2, r3.2, r4.1⟩
  · rw [zer_snoc hi, hbv, if_pos rfl, List.append_nil]
    exact r3.1
  · rw [one_snoc hi, hbv, if_pos rfl, U64_app, List.length_append]
    exact hown

/-- The outer loop's state. -/
structure LyOut (base : Nat) (w wr : World) (wd n : Nat) (ly : List Bool) (now : List Nat) (done : List Bool) (k : Nat) (ou no : Value) : Prop where
  rd : ∃ B', Rd B' wr no (U64 now) ∧ B' ≤ wr.heap.size
  len : now.length = n
  big : ∀ x ∈ now, x < 18446744073709551616
  own : wr.ownsRow base 4 1 ou done.length (Bo done)
  ap : Ap no ou
  eq : ly = done ++ Sp.lay now k
  dl : done.length = (wd - k) * n
  bel : Below base w wr

theorem LyIn.out {base : Nat} {w wr w1 : World} {wd : Nat} {ly : List Bool} {now : List Nat} {no : Value} {B' : Nat} {done : List Bool} {k n : Nat} {ou ze on v1 : Value} (h : LyIn base w wr now no B' done k n ou ze on) (hb0 : base ≤ w.heap.size) (hlen : now.length = n) (hk : k + 1 ≤ wd)
    (hbig : ∀ x ∈ now, x < 18446744073709551616) (heq : ly = done ++ Sp.lay now (k + 1)) (hdl : done.length = (wd - (k + 1)) * n)
    (hown : w1.ownsRow base 34 1 v1 ((zer now k n).length + (U64 (one now k n)).length) (U64 (zer now k n) ++ U64 (one now k n))) (hg : wr.grownBy w1 ze.ownBlock) (hat : v1.ownBlock = ze.ownBlock ∨ v1.ownBlock = some wr.heap.size) :
    LyOut base w w1 wd n ly (Sp.part now k) (done ++ bts now k n) k ou v1 := by
  have ez : zer now k n = now.filter (fun v => !v.testBit k) := by unfold zer; rw [List.take_of_length_le (by omega)]
  have eo : one now k n = now.filter (fun v => v.testBit k) := by unfold one; rw [List.take_of_length_le (by omega)]
  have eb : bts now k n = now.map (fun v => v.testBit k) := by unfold bts; rw [List.take_of_length_le (by omega)]
  have r2 := apps_own h.o1 h.a4 hg hat
  have r4 := apps_below h.bel hb0 h.o2 hg
  have lb : (bts now k n).length = n := by rw [eb, List.length_map, hlen]
  refine ⟨⟨_, ?_, Nat.le_refl _⟩, by rw [Sp.part_len, hlen], fun x hx => hbig x (Sp.part_mem hx), ?_, r2.2.symm, ?_, ?_, r4.1⟩
  · have := Rd.owned hown
    rw [← U64_app, ez, eo] at this
    exact this
  · rw [List.length_append, lb]
    exact r2.1
  · rw [heq, eb, List.append_assoc]
    rfl
  · rw [List.length_append, lb, hdl, show wd - k = wd - (k + 1) + 1 from by omega, Nat.succ_mul]

set_option maxHeartbeats 1000000 in
theorem layers_any (p : Option Addr) (B n c : Nat) (vs : List Nat) (w : World) (hr : Rd B w (.slice p n c) (U64 vs)) (hB : B ≤ w.heap.size) (hv : ∀ x ∈ vs, x < 18446744073709551616) (hn : n ≤ 1000000000) :
    Calls Tryd.prog 29 #[.slice p n c] w fun e w' => ∃ v, e = .returned v ∧ w'.ownsRow w.heap.size 4 1 v (Sp.layers vs).length (Bo (Sp.layers vs)) ∧ Below w.heap.size w w' := by
  have hwid := width_any p B n c vs w hr hv (by omega)
  have HW := hide hwid
  have h64 := Sp.widthOf_le vs hv
  obtain ⟨hl, hlc⟩ := hr.len
  rw [U64_len] at hl
  have H0 : Hid (LyOut w.heap.size w w (Sp.widthOf vs) n (Sp.layers vs) vs [] (Sp.widthOf vs) (.slice none 0 0) (.slice p n c)) :=
    ⟨⟨B, hr, hB⟩, hl.symm, hv, World.ownsRow_nil _ _ _ _, Ap.nil _, rfl, by simp, Below.refl _ _⟩
  clear hwid hl hr hv
  generalize Sp.widthOf vs = wd at *
  generalize Sp.layers vs = ly at *
  go_enter Tryd.func29, Tryd.ntmps29
  go_wp2_with (go_at_call 27; refine at_same (unhide HW) ?_)
  go_loopw [3, 4, 5] (fun ou no kk wr => ∃ (k : Nat) (done : List Bool) (now : List Nat), k ≤ wd ∧ kk = .int .i64 ((k : Int) - 1) ∧ LyOut w.heap.size w wr wd n ly now done k ou no) (fun _ _ kk _ => (intOf kk + 1).toNat)
  case atStart => exact ⟨wd, [], vs, Nat.le_refl _, rfl, unhide H0⟩
  case round =>
    obtain ⟨k, done, now, hk, rfl, hst⟩ := hrel
    cases k with
    | zero =>
      have HE : Hid (ly = done) := by rw [Hid, hst.eq]; simp [Sp.lay]
      go_wp2
      go_ret
      exact ⟨_, rfl, by rw [HE.out]; exact hst.own, hst.bel⟩
    | succ k =>
      rw [show (((k + 1 : Nat) : Int) - 1) = (k : Int) from by omega]
      obtain ⟨⟨B', hrd, hB'⟩, hlen, hbig, hown, hap, heq, hdl, hbel⟩ := hst
      obtain ⟨p', c', rfl, hlc'⟩ := hrd.form
      have hul : (U64 now).length = n := by rw [U64_len]; exact hlen
      rw [hul] at hrd hap hlc' ⊢
      clear hul
      have HI : Hid (LyIn w.heap.size w wr now (.slice p' n c') B' done k 0 u3 (.slice none 0 0) (.slice none 0 0)) :=
        ⟨hrd, hB', by simpa [bts] using hown, World.ownsRow_nil _ _ _ _, World.ownsRow_nil _ _ _ _, hap, Ap.nil _, Ap.nil _, Ap.nil _, Ap.nil _, Ap.nil _, hbel⟩
      have hdn : done.length ≤ 64 * 1000000000 := by rw [hdl]; exact Nat.mul_le_mul (by omega) hn
      have HL := hide hlen
      have HQ := hide heq
      have HD := hide hdl
      have hb0 : w.heap.size ≤ wr.heap.size := hbel.size
      have HB := hide hbig
      clear hown hap hbel hrd hB' hlen heq hdl hbig
      go_wp2
      go_loopw [3, 6, 7, 8] (fun ou ze on ii wq => ∃ i : Nat, i ≤ n ∧ ii = .int .i64 i ∧ LyIn w.heap.size w wq now (.slice p' n c') B' done k i ou ze on) (fun _ _ _ ii _ => n - (intOf ii).toNat)
      case atStart => exact ⟨0, Nat.zero_le _, rfl, unhide HI⟩
      case round =>
        obtain ⟨i, hi, rfl, hin⟩ := hrel
        have hz0 := zer_le now k i
        have ho0 := one_le now k i
        have hsz : w.heap.size ≤ wr.heap.size := hin.bel.size
        by_cases hlt : i < n
        · have hlt' : i < now.length := by rw [unhide HL]; exact hlt
          obtain ⟨b, o, rfl, hb, hc⟩ := hin.rd.at i _ (U64_at now i hlt')
          have hx : now[i] < 18446744073709551616 := unhide HB _ (List.getElem_mem hlt')
          cases hbv : now[i].testBit k with
          | false =>
            have hbw : (bits BinOp.and IntKind.u64 ((now[i] : Int) / 2 ^ k) 1 == 1) = false := by rw [and1_u64 _ hx, hbv]
            have HX : Hid (Value.int .u64 (now[i] : Int) = Value.int .u64 (now[i] : Int)) := rfl
            generalize hxx : now[i] = x at *
            have HXX := hide hxx
            have HBV := hide hbv
            have HIN := hide hin
            clear hxx hbv hin
            have hcr : ∀ W, Rd B' W (.slice (some ⟨b, o, none⟩) n c') (U64 now) → W.cell? ⟨b, o + i, none⟩ = some (.int .u64 (x : Int)) := by
              intro W hW
              obtain ⟨b2, o2, he, _, h2⟩ := hW.at i _ (U64_at now i hlt')
              simp only [Option.some.injEq, Addr.mk.injEq] at he
              obtain ⟨rfl, rfl, _⟩ := he
              rw [h2, unhide HXX]
            have HCR := hide hcr
            clear hcr
            go_wp2_with (first
              | (at_builtin; refine wpList_app _ rfl (.tmp 32) (.tmp 34) 74 rfl w.heap.size 4 (.bool false) 1 Tryd.underlying74 Ty.bool rfl u3 _ _ rfl ((unhide HIN).o1.alloc _) _ _ rfl ⟨_, Rd.one wr (.bool false) 4⟩ (one_bool _) (by simp; unfold maxLen; omega) (by simp; omega) (by simp; omega) ?_; intro v1 w1 hown1 hg1 hb1; have R1 := LyIn.bit (unhide HIN) (Nat.le_refl _) hlt' (by rw [unhide HXX]; exact unhide HBV) hown1 hg1 hb1; have hcc := unhide HCR w1 R1.1; have HR1 := hide R1; clear R1 hown1 hg1 hb1 hc)
              | (at_builtin; refine wpList_app _ rfl (.tmp 44) (.tmp 49) 35 rfl w.heap.size 34 (.int .u64 0) 8 Tryd.underlying35 Ty.u64 rfl u6 _ _ rfl ((unhide HR1).2.2.2.1.alloc _) _ _ rfl ⟨_, Rd.one w1 (.int .u64 (x : Int)) 34⟩ (one_int _ _) (by simp; unfold maxLen; omega) (by simp; omega) (by have := (unhide HR1).2.2.2.2.2.2.2.2.2.2.2.size; simp; omega) ?_; intro v2 w2 hown2 hg2 hb2; have R2 := LyIn.nul (Nat.le_refl _) hlt' (by rw [unhide HXX]; exact unhide HBV) (unhide HR1) (by rw [unhide HXX]; exact hown2) hg2 hb2; have HR2 := hide R2; clear R2 hown2 hg2 hb2))
            go_roundw
            case rel => exact ⟨i + 1, by omega, by go_num, unhide HR2⟩
            case measure => simp [intOf]; omega
          | true =>
            have hbw : (bits BinOp.and IntKind.u64 ((now[i] : Int) / 2 ^ k) 1 == 1) = true := by rw [and1_u64 _ hx, hbv]
            have HX : Hid (Value.int .u64 (now[i] : Int) = Value.int .u64 (now[i] : Int)) := rfl
            generalize hxx : now[i] = x at *
            have HXX := hide hxx
            have HBV := hide hbv
            have HIN := hide hin
            clear hxx hbv hin
            have hcr : ∀ W, Rd B' W (.slice (some ⟨b, o, none⟩) n c') (U64 now) → W.cell? ⟨b, o + i, none⟩ = some (.int .u64 (x : Int)) := by
              intro W hW
              obtain ⟨b2, o2, he, _, h2⟩ := hW.at i _ (U64_at now i hlt')
              simp only [Option.some.injEq, Addr.mk.injEq] at he
              obtain ⟨rfl, rfl, _⟩ := he
              rw [h2, unhide HXX]
            have HCR := hide hcr
            clear hcr
            go_wp2_with (first
              | (at_builtin; refine wpList_app _ rfl (.tmp 32) (.tmp 34) 74 rfl w.heap.size 4 (.bool false) 1 Tryd.underlying74 Ty.bool rfl u3 _ _ rfl ((unhide HIN).o1.alloc _) _ _ rfl ⟨_, Rd.one wr (.bool true) 4⟩ (one_bool _) (by simp; unfold maxLen; omega) (by simp; omega) (by simp; omega) ?_; intro v1 w1 hown1 hg1 hb1; have R1 := LyIn.bit (unhide HIN) (Nat.le_refl _) hlt' (by rw [unhide HXX]; exact unhide HBV) hown1 hg1 hb1; have hcc := unhide HCR w1 R1.1; have HR1 := hide R1; clear R1 hown1 hg1 hb1 hc)
              | (at_builtin; refine wpList_app _ rfl (.tmp 37) (.tmp 42) 35 rfl w.heap.size 34 (.int .u64 0) 8 Tryd.underlying35 Ty.u64 rfl u7 _ _ rfl ((unhide HR1).2.2.2.2.1.alloc _) _ _ rfl ⟨_, Rd.one w1 (.int .u64 (x : Int)) 34⟩ (one_int _ _) (by simp; unfold maxLen; omega) (by simp; omega) (by have := (unhide HR1).2.2.2.2.2.2.2.2.2.2.2.size; simp; omega) ?_; intro v2 w2 hown2 hg2 hb2; have R2 := LyIn.ein (Nat.le_refl _) hlt' (by rw [unhide HXX]; exact unhide HBV) (unhide HR1) (by rw [unhide HXX]; exact hown2) hg2 hb2; have HR2 := hide R2; clear R2 hown2 hg2 hb2))
            go_roundw
            case rel => exact ⟨i + 1, by omega, by go_num, unhide HR2⟩
            case measure => simp [intOf]; omega
        · have he : i = n := by omega
          subst he
          have HIN := hide hin
          have hze := zer_le now k i
          have hon := one_le now k i
          clear hin
          go_wp2_with (at_builtin; refine wpList_app _ rfl (.tmp 51) (.tmp 52) 35 rfl w.heap.size 34 (.int .u64 0) 8 Tryd.underlying35 Ty.u64 rfl u6 _ _ rfl (unhide HIN).o2 _ _ rfl ⟨_, Rd.owned (unhide HIN).o3⟩ (one_U64 _) (by rw [U64_len]; unfold maxLen; omega) (by rw [U64_len]; omega) (by omega) ?_; intro v1 w1 hown1 hg1 hb1; have R1 := LyIn.out (unhide HIN) (Nat.le_refl _) (unhide HL) hk (unhide HB) (unhide HQ) (unhide HD) hown1 hg1 hb1; have HR1 := hide R1; clear R1 hown1 hg1 hb1)
          go_roundw
          case rel => exact ⟨k, _, _, by omega, rfl, unhide HR1⟩
          case measure => simp [intOf]
end Rf
end Go.Proofs.YtmefkcbchpjeoaaDoor
