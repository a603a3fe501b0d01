import Derived.Test.YtolkjadklbchfaaGreatDoorG2
import Derived.Deep.QuietTactic
import Derived.BigQuiet
/- Walks: Layers. -/
open Go Go.RowKit
namespace Go.Proofs.YtolkjadklbchfaaGreatDoor
namespace Rf
open Mem

/-- What the inner loop holds behind i values: the bits, the zeros, the ones. -/
def zer (now : List Nat) (k i : Nat) : List Nat := (now.take i).filter (fun v => !v.testBit k)
def one (now : List Nat) (k i : Nat) : List Nat := (now.take i).filter (fun v => v.testBit k)
def bts (now : List Nat) (k i : Nat) : List Bool := (now.take i).map (fun v => v.testBit k)

theorem zer_le (now : List Nat) (k i : Nat) : (zer now k i).length ≤ i := Nat.le_trans (List.length_filter_le _ _) (List.length_take_le _ _)
theorem one_le (now : List Nat) (k i : Nat) : (one now k i).length ≤ i := Nat.le_trans (List.length_filter_le _ _) (List.length_take_le _ _)
theorem bts_snoc {now : List Nat} {k i : Nat} (h : i < now.length) : bts now k (i + 1) = bts now k i ++ [now[i].testBit k] := by
  unfold bts; rw [take_snoc _ _ h, List.map_append]; rfl
theorem zer_snoc {now : List Nat} {k i : Nat} (h : i < now.length) : zer now k (i + 1) = zer now k i ++ (if now[i].testBit k then [] else [now[i]]) := by
  unfold zer; rw [take_snoc _ _ h, List.filter_append]; congr 1; cases hb : now[i].testBit k <;> simp [hb]
theorem one_snoc {now : List Nat} {k i : Nat} (h : i < now.length) : one now k (i + 1) = one now k i ++ (if now[i].testBit k then [now[i]] else []) := by
  unfold one; rw [take_snoc _ _ h, List.filter_append]; congr 1; cases hb : now[i].testBit k <;> simp [hb]

theorem and1_u64 (x : Nat) (hx : x < 18446744073709551616) (j : Nat) : (bits BinOp.and IntKind.u64 ((x : Int) / 2 ^ j) 1 == 1) = x.testBit j := by
  have e : ((x : Int) / 2 ^ j) = ((x / 2 ^ j : Nat) : Int) := by simp
  have hlt : x / 2 ^ j < 18446744073709551616 := Nat.lt_of_le_of_lt (Nat.div_le_self _ _) hx
  rw [e, show (1 : Int) = ((1 : Nat) : Int) from rfl, u64_and_nat _ _ hlt (by omega), Nat.and_one_is_mod, Nat.testBit_eq_decide_div_mod_eq]
  rw [Bool.eq_iff_iff]
  simp only [beq_iff_eq, decide_eq_true_eq]
  omega

/-- The inner loop's state. -/
structure LyIn (base : Nat) (w wr : World) (now : List Nat) (no : Value) (B' : Nat) (done : List Bool) (k i : Nat) (ou ze on : Value) : Prop where
  rd : Rd B' wr no (U64 now)
  sz : B' ≤ wr.heap.size
  o1 : wr.ownsRow base 4 1 ou (done.length + i) (Bo (done ++ bts now k i))
  o2 : wr.ownsRow base 34 1 ze (zer now k i).length (U64 (zer now k i))
  o3 : wr.ownsRow base 34 1 on (one now k i).length (U64 (one now k i))
  a1 : Ap no ou
  a2 : Ap no ze
  a3 : Ap no on
  a4 : Ap ou ze
  a5 : Ap ou on
  a6 : Ap ze on
  bel : Below base w wr

theorem LyIn.bit {base : Nat} {w wr w1 : World} {now : List Nat} {no : Value} {B' : Nat} {done : List Bool} {k i : Nat} {ou ze on ou' : Value} {o : Obj} {b : Bool} (h : LyIn base w wr now no B' done k i ou ze on) (hb0 : base ≤ w.heap.size) (hi : i < now.length) (hbv : now[i].testBit k = b)
    (hown : w1.ownsRow base 4 1 ou' (done.length + i + [Value.bool b].length) (Bo (done ++ bts now k i) ++ [Value.bool b])) (hg : (wr.alloc o).grownBy w1 ou.ownBlock) (hat : ou'.ownBlock = ou.ownBlock ∨ ou'.ownBlock = some (wr.alloc o).heap.size) :
    Rd B' w1 no (U64 now) ∧ B' ≤ w1.heap.size ∧ w1.ownsRow base 4 1 ou' (done.length + (i + 1)) (Bo (done ++ bts now k (i + 1))) ∧ w1.ownsRow base 34 1 ze (zer now k i).length (U64 (zer now k i)) ∧ w1.ownsRow base 34 1 on (one now k i).length (U64 (one now k i)) ∧
      Ap no ou' ∧ Ap no ze ∧ Ap no on ∧ Ap ou' ze ∧ Ap ou' on ∧ Ap ze on ∧ Below base w w1 := by
  have r1 := app_rd h.rd (U64_ne hi) h.sz h.a1 hg hat
  have r2 := app_own h.o2 h.a4.symm hg hat
  have r3 := app_own h.o3 h.a5.symm hg hat
  have r4 := app_below h.bel hb0 h.o1 hg
  refine ⟨r1.1, by have := h.sz; omega, ?_, r2.1, r3.1, r1.2, h.a2, h.a3, r2.2.symm, r3.2.symm, h.a6, r4.1⟩
  rw [bts_snoc hi, hbv, ← List.append_assoc, Bo_app (done ++ bts now k i)]
  exact hown

theorem LyIn.nul {base : Nat} {w w1 w2 : World} {now : List Nat} {no : Value} {B' : Nat} {done : List Bool} {k i : Nat} {ou ze on ze' : Value} {o : Obj} (hb0 : base ≤ w.heap.size) (hi : i < now.length) (hbv : now[i].testBit k = false)
    (h : Rd B' w1 no (U64 now) ∧ B' ≤ w1.heap.size ∧ w1.ownsRow base 4 1 ou (done.length + (i + 1)) (Bo (done ++ bts now k (i + 1))) ∧ w1.ownsRow base 34 1 ze (zer now k i).length (U64 (zer now k i)) ∧ w1.ownsRow base 34 1 on (one now k i).length (U64 (one now k i)) ∧
      Ap no ou ∧ Ap no ze ∧ Ap no on ∧ Ap ou ze ∧ Ap ou on ∧ Ap ze on ∧ Below base w w1)
    (hown : w2.ownsRow base 34 1 ze' ((zer now k i).length + [Value.int .u64 (now[i] : Int)].length) (U64 (zer now k i) ++ [Value.int .u64 (now[i] : Int)])) (hg : (w1.alloc o).grownBy w2 ze.ownBlock) (hat : ze'.ownBlock = ze.ownBlock ∨ ze'.ownBlock = some (w1.alloc o).heap.size) :
    LyIn base w w2 now no B' done k (i + 1) ou ze' on := by
  obtain ⟨h1, h2, h3, h4, h5, a1, a2, a3, a4, a5, a6, hbel⟩ := h
  have r1 := app_rd h1 (U64_ne hi) h2 a2 hg hat
  have r2 := app_own h3 a4 hg hat
  have r3 := app_own h5 a6.symm hg hat
  have r4 := app_below hbel hb0 h4 hg
  refine ⟨r1.1, by omega, r2.1, ?_, ?_, a1, r1.2, a3, r2.2, a5, r3.2.symm, r4.1⟩
  · rw [zer_snoc hi, hbv, if_neg (by simp), U64_app, List.length_append]
    exact hown
  · rw [one_snoc hi, hbv, if_neg (by simp), List.append_nil]
    exact r3.1

theorem LyIn.ein {base : Nat} {w w1 w2 : World} {now : List Nat} {no : Value} {B' : Nat} {done : List Bool} {k i : Nat} {ou ze on on' : Value} {o : Obj} (hb0 : base ≤ w.heap.size) (hi : i < now.length) (hbv : now[i].testBit k = true)
    (h : Rd B' w1 no (U64 now) ∧ B' ≤ w1.heap.size ∧ w1.ownsRow base 4 1 ou (done.length + (i + 1)) (Bo (done ++ bts now k (i + 1))) ∧ w1.ownsRow base 34 1 ze (zer now k i).length (U64 (zer now k i)) ∧ w1.ownsRow base 34 1 on (one now k i).length (U64 (one now k i)) ∧
      Ap no ou ∧ Ap no ze ∧ Ap no on ∧ Ap ou ze ∧ Ap ou on ∧ Ap ze on ∧ Below base w w1)
    (hown : w2.ownsRow base 34 1 on' ((one now k i).length + [Value.int .u64 (now[i] : Int)].length) (U64 (one now k i) ++ [Value.int .u64 (now[i] : Int)])) (hg : (w1.alloc o).grownBy w2 on.ownBlock) (hat : on'.ownBlock = on.ownBlock ∨ on'.ownBlock = some (w1.alloc o).heap.size) :
    LyIn base w w2 now no B' done k (i + 1) ou ze on' := by
  obtain ⟨h1, h2, h3, h4, h5, a1, a2, a3, a4, a5, a6, hbel⟩ := h
  have r1 := app_rd h1 (U64_ne hi) h2 a3 hg hat
  have r2 := app_own h3 a5 hg hat
  have r3 := app_own h4 a6 hg hat
  have r4 := app_below hbel hb0 h5 hg
  refine ⟨r1.1, by omega, r2.1, ?_, ?_, a1, a2, r1.2, a4, r2.2, r3.2, r4.1⟩
  · rw [zer_snoc hi, hbv, if_pos rfl, List.append_nil]
    exact r3.1
  · rw [one_snoc hi, hbv, if_pos rfl, U64_app, List.length_append]
    exact hown

/-- The outer loop's state. -/
structure LyOut (base : Nat) (w wr : World) (wd n : Nat) (ly : List Bool) (now : List Nat) (done : List Bool) (k : Nat) (ou no : Value) : Prop where
  rd : ∃ B', Rd B' wr no (U64 now) ∧ B' ≤ wr.heap.size
  len : now.length = n
  big : ∀ x ∈ now, x < 18446744073709551616
  own : wr.ownsRow base 4 1 ou done.length (Bo done)
  ap : Ap no ou
  eq : ly = done ++ Sp.lay now k
  dl : done.length = (wd - k) * n
  bel : Below base w wr

theorem LyIn.out {base : Nat} {w wr w1 : World} {wd : Nat} {ly : List Bool} {now : List Nat} {no : Value} {B' : Nat} {done : List Bool} {k n : Nat} {ou ze on v1 : Value} (h : LyIn base w wr now no B' done k n ou ze on) (hb0 : base ≤ w.heap.size) (hlen : now.length = n) (hk : k + 1 ≤ wd)
    (hbig : ∀ x ∈ now, x < 18446744073709551616) (heq : ly = done ++ Sp.lay now (k + 1)) (hdl : done.length = (wd - (k + 1)) * n)
    (hown : w1.ownsRow base 34 1 v1 ((zer now k n).length + (U64 (one now k n)).length) (U64 (zer now k n) ++ U64 (one now k n))) (hg : wr.grownBy w1 ze.ownBlock) (hat : v1.ownBlock = ze.ownBlock ∨ v1.ownBlock = some wr.heap.size) :
    LyOut base w w1 wd n ly (Sp.part now k) (done ++ bts now k n) k ou v1 := by
  have ez : zer now k n = now.filter (fun v => !v.testBit k) := by unfold zer; rw [List.take_of_length_le (by omega)]
  have eo : one now k n = now.filter (fun v => v.testBit k) := by unfold one; rw [List.take_of_length_le (by omega)]
  have eb : bts now k n = now.map (fun v => v.testBit k) := by unfold bts; rw [List.take_of_length_le (by omega)]
  have r2 := apps_own h.o1 h.a4 hg hat
  have r4 := apps_below h.bel hb0 h.o2 hg
  have lb : (bts now k n).length = n := by rw [eb, List.length_map, hlen]
  refine ⟨⟨_, ?_, Nat.le_refl _⟩, by rw [Sp.part_len, hlen], fun x hx => hbig x (Sp.part_mem hx), ?_, r2.2.symm, ?_, ?_, r4.1⟩
  · have := Rd.owned hown
    rw [← U64_app, ez, eo] at this
    exact this
  · rw [List.length_append, lb]
    exact r2.1
  · rw [heq, eb, List.append_assoc]
    rfl
  · rw [List.length_append, lb, hdl, show wd - k = wd - (k + 1) + 1 from by omega, Nat.succ_mul]

set_option maxHeartbeats 1000000 in
theorem layers_any (p : Option Addr) (B n c : Nat) (vs : List Nat) (w : World) (hr : Rd B w (.slice p n c) (U64 vs)) (hB : B ≤ w.heap.size) (hv : ∀ x ∈ vs, x < 18446744073709551616) (hn : n ≤ 1000000000) :
    Calls Tryz.prog 30 #[.slice p n c] w fun e w' => ∃ v, e = .returned v ∧ w'.ownsRow w.heap.size 4 1 v (Sp.layers vs).length (Bo (Sp.layers vs)) ∧ Below w.heap.size w w' := by
  have hwid := width_any p B n c vs w hr hv (by omega)
  have HW := hide hwid
  have h64 := Sp.widthOf_le vs hv
  obtain ⟨hl, hlc⟩ := hr.len
  rw [U64_len] at hl
  have H0 : Hid (LyOut w.heap.size w w (Sp.widthOf vs) n (Sp.layers vs) vs [] (Sp.widthOf vs) (.slice none 0 0) (.slice p n c)) :=
    ⟨⟨B, hr, hB⟩, hl.symm, hv, World.ownsRow_nil _ _ _ _, Ap.nil _, rfl, by simp, Below.refl _ _⟩
  clear hwid hl hr hv
  generalize Sp.widthOf vs = wd at *
  generalize Sp.layers vs = ly at *
  go_enter Tryz.func30, Tryz.ntmps30
  go_wp2_with (go_at_call 28; refine at_same (unhide HW) ?_)
  go_loopw [3, 4, 5] (fun ou no kk wr => ∃ (k : Nat) (done : List Bool) (now : List Nat), k ≤ wd ∧ kk = .int .i64 ((k : Int) - 1) ∧ LyOut w.heap.size w wr wd n ly now done k ou no) (fun _ _ kk _ => (intOf kk + 1).toNat)
  case atStart => exact ⟨wd, [], vs, Nat.le_refl _, rfl, unhide H0⟩
  case round =>
    obtain ⟨k, done, now, hk, rfl, hst⟩ := hrel
    cases k with
    | zero =>
      have HE : Hid (ly = done) := by rw [Hid, hst.eq]; simp [Sp.lay]
      go_wp2
      go_ret
      exact ⟨_, rfl, by rw [HE.out]; exact hst.own, hst.bel⟩
    | succ k =>
      rw [show (((k + 1 : Nat) : Int) - 1) = (k : Int) from by omega]
      obtain ⟨⟨B', hrd, hB'⟩, hlen, hbig, hown, hap, heq, hdl, hbel⟩ := hst
      obtain ⟨p', c', rfl, hlc'⟩ := hrd.form
      have hul : (U64 now).length = n := by rw [U64_len]; exact hlen
      rw [hul] at hrd hap hlc' ⊢
      clear hul
      have HI : Hid (LyIn w.heap.size w wr now (.slice p' n c') B' done k 0 u3 (.slice none 0 0) (.slice none 0 0)) :=
        ⟨hrd, hB', by simpa [bts] using hown, World.ownsRow_nil _ _ _ _, World.ownsRow_nil _ _ _ _, hap, Ap.nil _, Ap.nil _, Ap.nil _, Ap.nil _, Ap.nil _, hbel⟩
      have hdn : done.length ≤ 64 * 1000000000 := by rw [hdl]; exact Nat.mul_le_mul (by omega) hn
      have HL := hide hlen
      have HQ := hide heq
      have HD := hide hdl
      have hb0 : w.heap.size ≤ wr.heap.size := hbel.size
      have HB := hide hbig
      clear hown hap hbel hrd hB' hlen heq hdl hbig
      go_wp2
      go_loopw [3, 6, 7, 8] (fun ou ze on ii wq => ∃ i : Nat, i ≤ n ∧ ii = .int .i64 i ∧ LyIn w.heap.size w wq now (.slice p' n c') B' done k i ou ze on) (fun _ _ _ ii _ => n - (intOf ii).toNat)
      case atStart => exact ⟨0, Nat.zero_le _, rfl, unhide HI⟩
      case round =>
        obtain ⟨i, hi, rfl, hin⟩ := hrel
        have hz0 := zer_le now k i
        have ho0 := one_le now k i
        have hsz : w.heap.size ≤ wr.heap.size := hin.bel.size
        by_cases hlt : i < n
        · have hlt' : i < now.length := by rw [unhide HL]; exact hlt
          obtain ⟨b, o, rfl, hb, hc⟩ := hin.rd.at i _ (U64_at now i hlt')
          have hx : now[i] < 18446744073709551616 := unhide HB _ (List.getElem_mem hlt')
          cases hbv : now[i].testBit k with
          | false =>
            have hbw : (bits BinOp.and IntKind.u64 ((now[i] : Int) / 2 ^ k) 1 == 1) = false := by rw [and1_u64 _ hx, hbv]
            have HX : Hid (Value.int .u64 (now[i] : Int) = Value.int .u64 (now[i] : Int)) := rfl
            generalize hxx : now[i] = x at *
            have HXX := hide hxx
            have HBV := hide hbv
            have HIN := hide hin
            clear hxx hbv hin
            have hcr : ∀ W, Rd B' W (.slice (some ⟨b, o, none⟩) n c') (U64 now) → W.cell? ⟨b, o + i, none⟩ = some (.int .u64 (x : Int)) := by
              intro W hW
              obtain ⟨b2, o2, he, _, h2⟩ := hW.at i _ (U64_at now i hlt')
              simp only [Option.some.injEq, Addr.mk.injEq] at he
              obtain ⟨rfl, rfl, _⟩ := he
              rw [h2, unhide HXX]
            have HCR := hide hcr
            clear hcr
            go_wp2_with (first
              | (at_builtin; refine wpList_app _ rfl (.tmp 32) (.tmp 34) 80 rfl w.heap.size 4 (.bool false) 1 Tryz.underlying80 Ty.bool rfl u3 _ _ rfl ((unhide HIN).o1.alloc _) _ _ rfl ⟨_, Rd.one wr (.bool false) 4⟩ (one_bool _) (by simp; unfold maxLen; omega) (by simp; omega) (by simp; omega) ?_; intro v1 w1 hown1 hg1 hb1; have R1 := LyIn.bit (unhide HIN) (Nat.le_refl _) hlt' (by rw [unhide HXX]; exact unhide HBV) hown1 hg1 hb1; have hcc := unhide HCR w1 R1.1; have HR1 := hide R1; clear R1 hown1 hg1 hb1 hc)
              | (at_builtin; refine wpList_app _ rfl (.tmp 44) (.tmp 49) 35 rfl w.heap.size 34 (.int .u64 0) 8 Tryz.underlying35 Ty.u64 rfl u6 _ _ rfl ((unhide HR1).2.2.2.1.alloc _) _ _ rfl ⟨_, Rd.one w1 (.int .u64 (x : Int)) 34⟩ (one_int _ _) (by simp; unfold maxLen; omega) (by simp; omega) (by have := (unhide HR1).2.2.2.2.2.2.2.2.2.2.2.size; simp; omega) ?_; intro v2 w2 hown2 hg2 hb2; have R2 := LyIn.nul (Nat.le_refl _) hlt' (by rw [unhide HXX]; exact unhide HBV) (unhide HR1) (by rw [unhide HXX]; exact hown2) hg2 hb2; have HR2 := hide R2; clear R2 hown2 hg2 hb2))
            go_roundw
            case rel => exact ⟨i + 1, by omega, by go_num, unhide HR2⟩
            case measure => simp [intOf]; omega
          | true =>
            have hbw : (bits BinOp.and IntKind.u64 ((now[i] : Int) / 2 ^ k) 1 == 1) = true := by rw [and1_u64 _ hx, hbv]
            have HX : Hid (Value.int .u64 (now[i] : Int) = Value.int .u64 (now[i] : Int)) := rfl
            generalize hxx : now[i] = x at *
            have HXX := hide hxx
            have HBV := hide hbv
            have HIN := hide hin
            clear hxx hbv hin
            have hcr : ∀ W, Rd B' W (.slice (some ⟨b, o, none⟩) n c') (U64 now) → W.cell? ⟨b, o + i, none⟩ = some (.int .u64 (x : Int)) := by
              intro W hW
              obtain ⟨b2, o2, he, _, h2⟩ := hW.at i _ (U64_at now i hlt')
              simp only [Option.some.injEq, Addr.mk.injEq] at he
              obtain ⟨rfl, rfl, _⟩ := he
              rw [h2, unhide HXX]
            have HCR := hide hcr
            clear hcr
            go_wp2_with (first
              | (at_builtin; refine wpList_app _ rfl (.tmp 32) (.tmp 34) 80 rfl w.heap.size 4 (.bool false) 1 Tryz.underlying80 Ty.bool rfl u3 _ _ rfl ((unhide HIN).o1.alloc _) _ _ rfl ⟨_, Rd.one wr (.bool true) 4⟩ (one_bool _) (by simp; unfold maxLen; omega) (by simp; omega) (by simp; omega) ?_; intro v1 w1 hown1 hg1 hb1; have R1 := LyIn.bit (unhide HIN) (Nat.le_refl _) hlt' (by rw [unhide HXX]; exact unhide HBV) hown1 hg1 hb1; have hcc := unhide HCR w1 R1.1; have HR1 := hide R1; clear R1 hown1 hg1 hb1 hc)
              | (at_builtin; refine wpList_app _ rfl (.tmp 37) (.tmp 42) 35 rfl w.heap.size 34 (.int .u64 0) 8 Tryz.underlying35 Ty.u64 rfl u7 _ _ rfl ((unhide HR1).2.2.2.2.1.alloc _) _ _ rfl ⟨_, Rd.one w1 (.int .u64 (x : Int)) 34⟩ (one_int _ _) (by simp; unfold maxLen; omega) (by simp; omega) (by have := (unhide HR1).2.2.2.2.2.2.2.2.2.2.2.size; simp; omega) ?_; intro v2 w2 hown2 hg2 hb2; have R2 := LyIn.ein (Nat.le_refl _) hlt' (by rw [unhide HXX]; exact unhide HBV) (unhide HR1) (by rw [unhide HXX]; exact hown2) hg2 hb2; have HR2 := hide R2; clear R2 hown2 hg2 hb2))
            go_roundw
            case rel => exact ⟨i + 1, by omega, by go_num, unhide HR2⟩
            case measure => simp [intOf]; omega
        · have he : i = n := by omega
          subst he
          have HIN := hide hin
          have hze := zer_le now k i
          have hon := one_le now k i
          clear hin
          go_wp2_with (at_builtin; refine wpList_app _ rfl (.tmp 51) (.tmp 52) 35 rfl w.heap.size 34 (.int .u64 0) 8 Tryz.underlying35 Ty.u64 rfl u6 _ _ rfl (unhide HIN).o2 _ _ rfl ⟨_, Rd.owned (unhide HIN).o3⟩ (one_U64 _) (by rw [U64_len]; unfold maxLen; omega) (by rw [U64_len]; omega) (by omega) ?_; intro v1 w1 hown1 hg1 hb1; have R1 := LyIn.out (unhide HIN) (Nat.le_refl _) (unhide HL) hk (unhide HB) (unhide HQ) (unhide HD) hown1 hg1 hb1; have HR1 := hide R1; clear R1 hown1 hg1 hb1)
          go_roundw
          case rel => exact ⟨k, _, _, by omega, rfl, unhide HR1⟩
          case measure => simp [intOf]
end Rf
end Go.Proofs.YtolkjadklbchfaaGreatDoor
/- Walks: Brackets. -/
open Go Go.RowKit
namespace Go.Proofs.YtolkjadklbchfaaGreatDoor
namespace Rf
open Mem

/-- A slice cut at its end: the row owns one less. -/
theorem own_pop {w : World} {base : Nat} {e : TypeId} {g n cap : Nat} {xs : List Value} {x : Value} (h : w.ownsRow base e 1 (.slice (some ⟨g, 0, none⟩) (n + 1) cap) (n + 1) (xs ++ [x])) : w.ownsRow base e 1 (.slice (some ⟨g, 0, none⟩) n cap) n xs := by
  have hl := h.1
  simp at hl
  rcases h.2 with ⟨h', _⟩ | ⟨g', cap', cur, h', hb, hg, hnc, hcm, hcs, ht⟩
  · simp at h'
  · simp only [Value.slice.injEq, Option.some.injEq, Addr.mk.injEq, and_true, true_and] at h'
    obtain ⟨rfl, rfl⟩ := h'
    refine ⟨by simp [hl], .inr ⟨g, cap, cur, rfl, hb, hg, by omega, hcm, hcs, ?_⟩⟩
    have := congrArg (List.take n) ht
    rw [List.take_take, List.take_append_of_le_length (by omega), List.take_of_length_le (l := xs) (by omega)] at this
    rw [← this]
    congr 1
    omega

/-- The loop's state: the stack in memory is the stack turned round. -/
structure BrSt (base : Nat) (w wr : World) (vs : List Nat) (B : Nat) (va : Value) (done : List Bool) (st : List Nat) (i : Nat) (ou sk : Value) : Prop where
  rd : Rd B wr va (U64 vs)
  o1 : wr.ownsRow base 4 1 ou done.length (Bo done)
  o2 : wr.ownsRow base 34 1 sk st.length (U64 st.reverse)
  ap : Ap ou sk
  eq : Sp.brackets vs = done ++ Sp.brk st (vs.drop i)
  sz : done.length + st.length = 2 * i
  bel : Below base w wr

theorem brk_cons {st : List Nat} {v : Nat} {l : List Nat} : Sp.brk st (v :: l) = List.replicate (st.length - (Sp.pops v st).length) false ++ true :: Sp.brk (v :: Sp.pops v st) l := rfl
theorem brk_pop {t v : Nat} {s l : List Nat} (h : v < t) : Sp.brk (t :: s) (v :: l) = false :: Sp.brk s (v :: l) := by
  have := Sp.pops_len v s
  simp only [brk_cons, Sp.pops, h, if_true, List.length_cons]
  rw [show s.length + 1 - (Sp.pops v s).length = (s.length - (Sp.pops v s).length) + 1 from by omega, List.replicate_succ]
  rfl
theorem brk_push {v : Nat} {st l : List Nat} (h : ∀ t s, st = t :: s → ¬ v < t) : Sp.brk st (v :: l) = true :: Sp.brk (v :: st) l := by
  have e : Sp.pops v st = st := by
    cases st with
    | nil => rfl
    | cons t s => simp [Sp.pops, h t s rfl]
  simp [brk_cons, e]
theorem brk_end {st : List Nat} : Sp.brk st [] = List.replicate st.length false := rfl

def lenV : Value → Nat | .slice _ n _ => n | _ => 0

theorem BrSt.drewN {base : Nat} {w wr : World} {vs : List Nat} {B : Nat} {va : Value} {done : List Bool} {st : List Nat} {i : Nat} {ou sk : Value} (h : BrSt base w wr vs B va done st i ou sk) (q : Nat) : BrSt base w (wr.drewN q) vs B va done st i ou sk := by
  refine ⟨?_, h.o1, h.o2, h.ap, h.eq, h.sz, ⟨h.bel.os, h.bel.tape, h.bel.output, h.bel.size, h.bel.block⟩⟩
  obtain ⟨p, c, he, hlc, h'⟩ := h.rd
  exact ⟨p, c, he, hlc, h'⟩

theorem BrSt.pop {base : Nat} {w wr w1 : World} {vs : List Nat} {B : Nat} {va : Value} {done : List Bool} {t : Nat} {s : List Nat} {i g cap : Nat} {ou ou' : Value} {o : Obj} (h : BrSt base w wr vs B va done (t :: s) i ou (.slice (some ⟨g, 0, none⟩) (s.length + 1) cap)) (hb0 : base ≤ w.heap.size) (hBb : B ≤ base) (hi : i < vs.length) (hv : vs[i] < t)
    (hown : w1.ownsRow base 4 1 ou' (done.length + [Value.bool false].length) (Bo done ++ [Value.bool false])) (hg : (wr.alloc o).grownBy w1 ou.ownBlock) (hat : ou'.ownBlock = ou.ownBlock ∨ ou'.ownBlock = some (wr.alloc o).heap.size) :
    BrSt base w w1 vs B va (done ++ [false]) s i ou' (.slice (some ⟨g, 0, none⟩) s.length cap) := by
  have r2 := app_own h.o2 h.ap.symm hg hat
  have r4 := app_below h.bel hb0 h.o1 hg
  have hsz := h.sz
  refine ⟨?_, ?_, ?_, ?_, ?_, ?_, r4.1⟩
  · refine (h.rd.alloc (by have := h.bel.size; omega) o).grown hg (by have := h.bel.size; simp; omega) ?_
    intro k hk
    have := (h.o1.lt k hk).1
    omega
  · rw [Bo_app, List.length_append]
    exact hown
  · have hh := r2.1
    rw [List.reverse_cons, U64_app] at hh
    exact own_pop hh
  · exact fun k hk hv' => r2.2 k hv' hk
  · rw [h.eq, List.drop_eq_getElem_cons hi, brk_pop hv, List.append_assoc]
    rfl
  · simp at hsz ⊢
    omega

theorem BrSt.push {base : Nat} {w wr w1 w2 : World} {vs : List Nat} {B : Nat} {va : Value} {done : List Bool} {st : List Nat} {i : Nat} {ou sk sk' ou' : Value} {o o' : Obj} (h : BrSt base w wr vs B va done st i ou sk) (hb0 : base ≤ w.heap.size) (hBb : B ≤ base) (hi : i < vs.length) (hv : ∀ t s, st = t :: s → ¬ vs[i] < t)
    (hown1 : w1.ownsRow base 34 1 sk' (st.length + [Value.int .u64 (vs[i] : Int)].length) (U64 st.reverse ++ [Value.int .u64 (vs[i] : Int)])) (hg1 : (wr.alloc o).grownBy w1 sk.ownBlock) (hat1 : sk'.ownBlock = sk.ownBlock ∨ sk'.ownBlock = some (wr.alloc o).heap.size)
    (hown : w2.ownsRow base 4 1 ou' (done.length + [Value.bool true].length) (Bo done ++ [Value.bool true])) (hg : (w1.alloc o').grownBy w2 ou.ownBlock) (hat : ou'.ownBlock = ou.ownBlock ∨ ou'.ownBlock = some (w1.alloc o').heap.size) :
    BrSt base w w2 vs B va (done ++ [true]) (vs[i] :: st) (i + 1) ou' sk' := by
  have q1 := app_own h.o1 h.ap hg1 hat1
  have q4 := app_below h.bel hb0 h.o2 hg1
  have r2 := app_own hown1 q1.2.symm hg hat
  have r4 := app_below q4.1 hb0 q1.1 hg
  have hsz := h.sz
  refine ⟨?_, ?_, ?_, r2.2.symm, ?_, ?_, r4.1⟩
  · have rd1 : Rd B w1 va (U64 vs) := (h.rd.alloc (by have := h.bel.size; omega) o).grown hg1 (by have := h.bel.size; simp; omega) (by
      intro k hk
      have := (h.o2.lt k hk).1
      omega)
    refine (rd1.alloc (by have := q4.1.size; omega) o').grown hg (by have := q4.1.size; simp; omega) ?_
    intro k hk
    have := (q1.1.lt k hk).1
    omega
  · rw [Bo_app, List.length_append]
    exact hown
  · rw [List.reverse_cons, U64_app]
    exact r2.1
  · rw [h.eq, List.drop_eq_getElem_cons hi, brk_push hv, List.append_assoc]
    rfl
  · simp
    omega

set_option maxHeartbeats 1000000 in
theorem brackets_any (p : Option Addr) (B n c : Nat) (vs : List Nat) (w : World) (hr : Rd B w (.slice p n c) (U64 vs)) (hB : B ≤ w.heap.size) (hn : n ≤ 1000000000) :
    Calls Tryz.prog 31 #[.slice p n c] w fun e w' => ∃ v, e = .returned v ∧ w'.ownsRow w.heap.size 4 1 v (Sp.brackets vs).length (Bo (Sp.brackets vs)) ∧ Below w.heap.size w w' := by
  obtain ⟨hl, hlc⟩ := hr.len
  rw [U64_len] at hl
  subst hl
  have H0 : Hid (BrSt w.heap.size w w vs B (.slice p vs.length c) [] [] 0 (.slice none 0 0) (.slice none 0 0)) :=
    ⟨hr, World.ownsRow_nil _ _ _ _, World.ownsRow_nil _ _ _ _, Ap.nil _, rfl, rfl, Below.refl _ _⟩
  clear hr
  go_enter Tryz.func31, Tryz.ntmps31
  go_wp2
  go_loopw [3, 4, 5] (fun ou sk ii wr => ∃ (i : Nat) (done : List Bool) (st : List Nat), i ≤ vs.length ∧ ii = .int .i64 i ∧ BrSt w.heap.size w wr vs B (.slice p vs.length c) done st i ou sk) (fun _ _ ii _ => vs.length - (intOf ii).toNat)
  case atStart => exact ⟨0, [], [], Nat.zero_le _, rfl, unhide H0⟩
  case round =>
    obtain ⟨i, done, st, hi, rfl, hst⟩ := hrel
    by_cases hlt : i < vs.length
    · have HST := hide hst
      clear hst
      go_wp2
      go_loopw [3, 4] (fun ou sk wr => ∃ (done : List Bool) (st : List Nat), BrSt w.heap.size w wr vs B (.slice p vs.length c) done st i ou sk) (fun _ sk _ => lenV sk)
      case atStart => exact ⟨done, st, unhide HST⟩
      case round =>
        clear HST H0
        obtain ⟨done, st, hst⟩ := hrel
        have hv := U64_at vs i hlt
        obtain ⟨b, o, rfl, hb, hc⟩ := hst.rd.at i _ hv
        have hsz := hst.sz
        have hsize := hst.bel.size
        have hsb : st.length ≤ 10000000000000 := by omega
        have hsd : done.length ≤ 10000000000000 := by omega
        clear hv
        by_cases hpop : ∃ t s, st = t :: s ∧ vs[i] < t
        · obtain ⟨t, s, rfl, hvt⟩ := hpop
          obtain ⟨g, cap, rfl, hcap, _, _, hcells, _⟩ := own_form hst.o2 (by simp)
          have hct := hcells s.length (.int .u64 (t : Int)) (by rw [List.reverse_cons, U64_app, List.getElem?_append_right (by rw [U64_len]; simp)]; simp [U64])
          rw [List.length_cons] at hst hcap hsz ⊢
          have HST := hide hst
          have HV := hide hvt
          have hvt' : ((vs[i] : Nat) : Int) < (t : Int) := by omega
          have hd : decide (((vs[i] : Nat) : Int) < (t : Int)) = true := by simpa using hvt'
          generalize hxx : vs[i] = x at *
          have HXX := hide hxx
          clear hst hcells hvt hxx
          go_wp2_with fail
          go_quiet (fail)
          go_wp2_with (at_builtin; refine wpList_app _ rfl (.tmp 33) (.tmp 34) 80 rfl w.heap.size 4 (.bool false) 1 Tryz.underlying80 Ty.bool rfl u3 _ _ rfl (((unhide HST).drewN nq).o1.alloc _) _ _ rfl ⟨_, Rd.one (wr.drewN nq) (.bool false) 4⟩ (one_bool _) (by simp; unfold maxLen; omega) (by simp; omega) (by simp; omega) ?_; intro v1 w1 hown1 hg1 hb1; have R1 := BrSt.pop ((unhide HST).drewN nq) (Nat.le_refl _) hB hlt (by rw [unhide HXX]; exact unhide HV) hown1 hg1 hb1; have HR1 := hide R1; clear R1 hown1 hg1 hb1 hc)
          go_roundw
          case rel => exact ⟨_, _, unhide HR1⟩
          case measure => simp [lenV]
        · have HNP : Hid (∀ t s, st = t :: s → ¬ vs[i] < t) := fun t s h1 h2 => hpop ⟨t, s, h1, h2⟩
          clear hpop
          cases st with
          | nil =>
            have hsk : u4 = .slice none 0 0 ∨ ∃ a c', u4 = .slice (some a) 0 c' := by
              rcases hst.o2.2 with ⟨h, _⟩ | ⟨g, cap, cur, h, _⟩
              · exact Or.inl h
              · exact Or.inr ⟨_, _, h⟩
            rcases hsk with rfl | ⟨a4, c4, rfl⟩
            all_goals
              have HST := hide hst
              generalize hxx : vs[i] = x at *
              have HXX := hide hxx
              clear hst hxx
              go_wp2_with fail
              go_quiet (fail)
              go_wp2_with (first
                | (at_builtin; refine wpList_app _ rfl (.tmp 36) (.tmp 41) 35 rfl w.heap.size 34 (.int .u64 0) 8 Tryz.underlying35 Ty.u64 rfl _ _ _ rfl (((unhide HST).drewN nq).o2.alloc _) _ _ rfl ⟨_, Rd.one (wr.drewN nq) (.int .u64 (x : Int)) 34⟩ (one_int _ _) (room1 hsb) (room8b hsb) (by simp; omega) ?_; intro v1 w1 hown1 hg1 hb1; have Q1 := app_own ((unhide HST).drewN nq).o1 ((unhide HST).drewN nq).ap hg1 hb1; have hs1 := (app_below ((unhide HST).drewN nq).bel (Nat.le_refl _) ((unhide HST).drewN nq).o2 hg1).2; have HQ1 := hide Q1; have HH1 := hide (And.intro hown1 (And.intro hg1 hb1)); clear Q1 hown1 hg1 hb1)
                | (at_builtin; refine wpList_app _ rfl (.tmp 43) (.tmp 44) 80 rfl w.heap.size 4 (.bool false) 1 Tryz.underlying80 Ty.bool rfl _ _ _ rfl ((unhide HQ1).1.alloc _) _ _ rfl ⟨_, Rd.one w1 (.bool true) 4⟩ (one_bool _) (room1 hsd) (room1b hsd) (by simp at hs1; simp; omega) ?_; intro v2 w2 hown2 hg2 hb2; have R1 := BrSt.push ((unhide HST).drewN nq) (Nat.le_refl _) hB hlt (fun t s h => by rw [unhide HXX]; exact HNP.out t s h) (by rw [unhide HXX]; exact (unhide HH1).1) (unhide HH1).2.1 (unhide HH1).2.2 hown2 hg2 hb2; have HR1 := hide R1; clear R1 hown2 hg2 hb2))
              go_roundw
              case rel => exact ⟨i + 1, _, _, by omega, by go_num, unhide HR1⟩
              case measure => simp [intOf]; omega
          | cons t s =>
            obtain ⟨g, cap, rfl, hcap, _, _, hcells, _⟩ := own_form hst.o2 (by simp)
            have hct := hcells s.length (.int .u64 (t : Int)) (by rw [List.reverse_cons, U64_app, List.getElem?_append_right (by rw [U64_len]; simp)]; simp [U64])
            have hnv := HNP.out t s rfl
            have hnv' : ¬ ((vs[i] : Nat) : Int) < (t : Int) := by omega
            have hd : decide (((vs[i] : Nat) : Int) < (t : Int)) = false := by simpa using hnv
            rw [List.length_cons] at hst hcap hsz ⊢
            have HST := hide hst
            generalize hxx : vs[i] = x at *
            have HXX := hide hxx
            clear hst hxx hcells hnv
            go_wp2_with fail
            go_quiet (fail)
            go_wp2_with (first
              | (at_builtin; refine wpList_app _ rfl (.tmp 36) (.tmp 41) 35 rfl w.heap.size 34 (.int .u64 0) 8 Tryz.underlying35 Ty.u64 rfl _ _ _ rfl (((unhide HST).drewN nq).o2.alloc _) _ _ rfl ⟨_, Rd.one (wr.drewN nq) (.int .u64 (x : Int)) 34⟩ (one_int _ _) (room1 hsb) (room8b hsb) (by simp; omega) ?_; intro v1 w1 hown1 hg1 hb1; have Q1 := app_own ((unhide HST).drewN nq).o1 ((unhide HST).drewN nq).ap hg1 hb1; have hs1 := (app_below ((unhide HST).drewN nq).bel (Nat.le_refl _) ((unhide HST).drewN nq).o2 hg1).2; have HQ1 := hide Q1; have HH1 := hide (And.intro hown1 (And.intro hg1 hb1)); clear Q1 hown1 hg1 hb1)
              | (at_builtin; refine wpList_app _ rfl (.tmp 43) (.tmp 44) 80 rfl w.heap.size 4 (.bool false) 1 Tryz.underlying80 Ty.bool rfl _ _ _ rfl ((unhide HQ1).1.alloc _) _ _ rfl ⟨_, Rd.one w1 (.bool true) 4⟩ (one_bool _) (room1 hsd) (room1b hsd) (by simp at hs1; simp; omega) ?_; intro v2 w2 hown2 hg2 hb2; have R1 := BrSt.push ((unhide HST).drewN nq) (Nat.le_refl _) hB hlt (fun t s h => by rw [unhide HXX]; exact HNP.out t s h) (by rw [unhide HXX]; exact (unhide HH1).1) (unhide HH1).2.1 (unhide HH1).2.2 hown2 hg2 hb2; have HR1 := hide R1; clear R1 hown2 hg2 hb2))
            go_roundw
            case rel => exact ⟨i + 1, _, _, by omega, by go_num, unhide HR1⟩
            case measure => simp [intOf]; omega
    · have he : i = vs.length := by omega
      subst he
      have hq := hst.eq
      rw [List.drop_length, brk_end] at hq
      have hsz := hst.sz
      have hown := hst.o1
      have hbel := hst.bel
      have HQ := hide hq
      have HO := hide (And.intro hown hbel)
      clear hst hq hown hbel
      go_wp2
      go_loopw [3] (fun ou wr => ∃ j : Nat, j ≤ st.length ∧ wr.ownsRow w.heap.size 4 1 ou (done.length + j) (Bo (done ++ List.replicate j false)) ∧ Below w.heap.size w wr) (fun ou _ => 2 * vs.length - lenV ou)
      case atStart => exact ⟨0, Nat.zero_le _, by simpa using (unhide HO).1, (unhide HO).2⟩
      case round =>
        obtain ⟨j, hj, hown, hbel⟩ := hrel
        clear HO
        have hsize := hbel.size
        obtain ⟨po, co, rfl, hco⟩ := own_slice hown
        have HW := hide (And.intro hown hbel)
        clear hown hbel
        by_cases hjl : j < st.length
        · go_wp2_with (at_builtin; refine wpList_app _ rfl (.tmp 52) (.tmp 53) 80 rfl w.heap.size 4 (.bool false) 1 Tryz.underlying80 Ty.bool rfl _ _ _ rfl ((unhide HW).1.alloc _) _ _ rfl ⟨_, Rd.one wr (.bool false) 4⟩ (one_bool _) (by simp; unfold maxLen; omega) (by simp; omega) (by simp; omega) ?_; intro v1 w1 hown1 hg1 hb1; have R1 := (app_below (unhide HW).2 (Nat.le_refl _) (unhide HW).1 hg1).1; have HR1 := hide (And.intro hown1 R1); clear R1 hown1 hg1 hb1)
          obtain ⟨p2, c2, rfl, hc2⟩ := own_slice (unhide HR1).1
          go_roundw
          case rel => exact ⟨j + 1, by omega, by have := (unhide HR1).1; rw [List.replicate_succ', ← List.append_assoc, Bo_app]; exact this, (unhide HR1).2⟩
          case measure => simp [lenV]; omega
        · have he : j = st.length := by omega
          subst he
          have hdl : done.length + st.length = (Sp.brackets vs).length := by rw [unhide HQ]; simp
          have HD := hide hdl
          clear hdl
          go_wp2
          go_ret
          exact ⟨_, rfl, by rw [← unhide HD, unhide HQ]; exact (unhide HW).1, (unhide HW).2⟩
end Rf
end Go.Proofs.YtolkjadklbchfaaGreatDoor
