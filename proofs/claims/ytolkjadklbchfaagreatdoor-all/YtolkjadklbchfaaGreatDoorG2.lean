import Derived.Test.YtolkjadklbchfaaGreatDoorProg
import Derived.Test.YtolkjadklbchfaaGreatDoorG1
import Derived.BigQuiet
import Derived.Deep.QuietTactic
/- Walks: Bit, Sum, pick. -/
open Go Go.RowKit
namespace Go.Proofs.YtolkjadklbchfaaGreatDoor
namespace Rf
open Mem

theorem and1_u8 (x : Nat) (hx : x < 256) (j : Nat) : (bits BinOp.and IntKind.u8 ((x : Int) / 2 ^ j) 1 == 1) = x.testBit j := by
  have e : ((x : Int) / 2 ^ j) = ((x / 2 ^ j : Nat) : Int) := by simp
  have hlt : x / 2 ^ j < 256 := Nat.lt_of_le_of_lt (Nat.div_le_self _ _) hx
  rw [e, show (1 : Int) = ((1 : Nat) : Int) from rfl, u8_and_nat _ _ hlt (by omega), Nat.and_one_is_mod, Nat.testBit_eq_decide_div_mod_eq]
  rw [Bool.eq_iff_iff]
  simp only [beq_iff_eq, decide_eq_true_eq]
  omega

set_option maxHeartbeats 400000 in
theorem bit_any (p : Option Addr) (B n c : Nat) (xs : List Nat) (k : Nat) (w : World) (hr : Rd B w (.slice p n c) (By xs)) (hk : k / 8 < xs.length) (hx : ∀ x ∈ xs, x < 256) (hk2 : k ≤ 1000000000000000) (hn : n ≤ 1000000000000000) :
    Calls Tryz.prog 104 #[.slice p n c, .int .i64 k] w fun e w' => e = .returned (.bool (Sp.bitOf xs k)) ∧ w' = w := by
  obtain ⟨hl, hlc⟩ := hr.len
  rw [By_len] at hl
  obtain ⟨b, o, rfl, hb, hc⟩ := hr.at (k / 8) _ (By_at xs (k / 8) hk)
  have hx' : xs[k / 8] < 256 := hx _ (List.getElem_mem hk)
  have hkn : k / 8 < n := by omega
  have hbit : Sp.bitOf xs k = xs[k / 8].testBit (k % 8) := by simp [Sp.bitOf, hk]
  rw [hbit]
  generalize xs[k / 8] = x at *
  clear hbit hr hl hx hk
  go_enter Tryz.func104, Tryz.ntmps104
  go_wp2
  go_ret
  exact ⟨ret_bool (and1_u8 x hx' _), rfl⟩

theorem xor_u32 (a b : Nat) (ha : a < 4294967296) (hb : b < 4294967296) : bits BinOp.xor IntKind.u32 (a : Int) (b : Int) = ((a ^^^ b : Nat) : Int) := u32_xor_nat a b ha hb

theorem odd_cast (s : Nat) : (((s : Nat) : Int) % 2 == 1) = (s % 2 == 1) := by
  rw [Bool.eq_iff_iff]
  simp only [beq_iff_eq]
  omega

theorem sum_yes {s : Nat} {b : Bool} (hs : s < 4294967296) (h : (!(b == (((s : Nat) : Int) % 2 == 1))) = true) :
    Value.int .u32 (bits BinOp.xor IntKind.u32 ((s : Int) / 2) 3988292384) = .int .u32 ((if (b != (s % 2 == 1)) = true then s / 2 ^^^ 3988292384 else s / 2 : Nat) : Int) := by
  rw [odd_cast] at h
  have e : ((s : Int) / 2) = ((s / 2 : Nat) : Int) := by omega
  rw [if_pos (by simpa [bne] using h), e, show (3988292384 : Int) = ((3988292384 : Nat) : Int) from rfl, xor_u32 _ _ (by omega) (by omega)]

theorem sum_no {s : Nat} {b : Bool} (h : (!(b == (((s : Nat) : Int) % 2 == 1))) = false) :
    Value.int .u32 ((s : Int) / 2) = .int .u32 ((if (b != (s % 2 == 1)) = true then s / 2 ^^^ 3988292384 else s / 2 : Nat) : Int) := by
  rw [odd_cast] at h
  have e : ((s : Int) / 2) = ((s / 2 : Nat) : Int) := by omega
  rw [if_neg (by simpa [bne] using h), e]

set_option maxHeartbeats 400000 in
theorem sum_any (p : Option Addr) (B n c : Nat) (xs : List Nat) (w : World) (hr : Rd B w (.slice p n c) (By xs)) (hx : ∀ x ∈ xs, x < 256) (hn : n ≤ 100000000000000) :
    Calls Tryz.prog 77 #[.slice p n c] w fun e w' => e = .returned (.int .u32 (Sp.sum xs : Nat)) ∧ w' = w := by
  obtain ⟨hl, hlc⟩ := hr.len
  rw [By_len] at hl
  have HL : Hid (n = xs.length) := hl
  have hfin : Hid (Sp.sum xs = Sp.sumTo xs (8 * n) ^^^ 4294967295) := by rw [hl]; rfl
  have hbit : ∀ k, k < 8 * n → Calls Tryz.prog 104 #[.slice p n c, .int .i64 (k : Nat)] w fun e w' => e = .returned (.bool (Sp.bitOf xs k)) ∧ w' = w :=
    fun k hk => bit_any p B n c xs k w hr (by omega) hx (by omega) (by omega)
  have HB := hide hbit
  clear hl hr hx hbit
  go_enter Tryz.func77, Tryz.ntmps77
  go_wp2
  go_loop [3, 4] (fun h i => ∃ k : Nat, k ≤ 8 * n ∧ i = .int .i64 k ∧ h = .int .u32 (Sp.sumTo xs k : Nat)) (fun _ i => 8 * n - (intOf i).toNat)
  case atStart => exact ⟨0, Nat.zero_le _, rfl, rfl⟩
  case round =>
    obtain ⟨k, hk, rfl, rfl⟩ := hrel
    have hs := Sp.sumTo_lt xs k
    by_cases hlt : k < 8 * n
    · have HS : Hid (Sp.sumTo xs (k + 1) = if Sp.bitOf xs k != (Sp.sumTo xs k % 2 == 1) then (Sp.sumTo xs k / 2) ^^^ 3988292384 else Sp.sumTo xs k / 2) := rfl
      generalize ht : Sp.sumTo xs (k + 1) = t at *
      generalize Sp.sumTo xs k = s at *
      have Ht := hide ht
      clear ht hfin
      go_wp2_with (go_at_call 104; refine (unhide HB k hlt).mono ?_; rintro e w' ⟨rfl, rfl⟩)
      all_goals
        go_round
        case rel =>
          refine ⟨k + 1, by omega, by go_num, ?_⟩
          rw [unhide Ht, HS.out]
          first | exact sum_yes hs ‹_› | exact sum_no ‹_›
        case measure => simp [intOf]; omega
    · go_wp2
      go_ret
      have he : k = 8 * n := by omega
      refine ⟨ret_int ?_, rfl⟩
      rw [hfin.out, ← he]
      exact xor_u32 (Sp.sumTo xs k) 4294967295 hs (by omega)
theorem tmod_nonneg {a : Int} {n : Nat} (h : 0 ≤ a) (hn : 0 < n) : ∃ k : Nat, k < n ∧ a.tmod n = k := by
  obtain ⟨m, rfl⟩ := Int.eq_ofNat_of_zero_le h
  exact ⟨m % n, Nat.mod_lt _ hn, by rw [Int.tmod_eq_emod_of_nonneg (by omega)]; simp⟩

set_option maxHeartbeats 400000 in
theorem pick_any (c : Int) (n : Nat) (w : World) (hn : 0 < n) (hn2 : n ≤ 1000) (hc : -9223372036854775808 ≤ c ∧ c ≤ 9223372036854775807) :
    Calls Tryz.prog 15 #[.int .i64 c, .int .i64 n] w fun e w' => ∃ k : Nat, k < n ∧ e = .returned (.int .i64 k) ∧ w' = w := by
  by_cases h0 : c < 0
  · obtain ⟨k, hk, he⟩ := tmod_nonneg (a := -(c + 1)) (n := n) (by omega) hn
    rw [Int.neg_tmod] at he
    have HE := hide he
    clear he
    go_enter Tryz.func15, Tryz.ntmps15
    go_wp2
    go_ret
    exact ⟨k, hk, ret_int (unhide HE), rfl⟩
  · obtain ⟨k, hk, he⟩ := tmod_nonneg (a := c) (n := n) (by omega) hn
    rw [Int.tmod_eq_emod_of_nonneg (by omega)] at he
    have HE := hide he
    clear he
    go_enter Tryz.func15, Tryz.ntmps15
    go_wp2
    go_ret
    exact ⟨k, hk, ret_int (unhide HE), rfl⟩
end Rf
end Go.Proofs.YtolkjadklbchfaaGreatDoor
/- Walks: Sealed, Bits. -/
open Go Go.RowKit
namespace Go.Proofs.YtolkjadklbchfaaGreatDoor
namespace Rf
open Mem

theorem tail4_cells (h : Nat) : [Value.int .u8 ((h : Int) % 256), .int .u8 ((h : Int) / 256 % 256), .int .u8 ((h : Int) / 65536 % 256), .int .u8 ((h : Int) / 16777216)] = By (Sp.tail4 h) := by
  simp [By, Sp.tail4]

theorem one_four (a b c d : Int) : ∀ u ∈ [Value.int .u8 a, .int .u8 b, .int .u8 c, .int .u8 d], u.oneCell' = true := by
  intro u hu
  simp at hu
  rcases hu with rfl | rfl | rfl | rfl <;> rfl

theorem sealed_end {w w1 w2 : World} {xs : List Nat} {h : Nat} {v1 v2 : Value} {o : Obj} (he : Sp.sealed xs = xs ++ Sp.tail4 h)
    (hown1 : w1.ownsRow w.heap.size 5 1 v1 (0 + (By xs).length) ([] ++ By xs)) (hg1 : w.grownBy w1 (Value.slice none 0 0).ownBlock)
    (hown2 : w2.ownsRow w.heap.size 5 1 v2 (0 + (By xs).length + 4) ([] ++ By xs ++ [Value.int .u8 ((h : Int) % 256), .int .u8 ((h : Int) / 256 % 256), .int .u8 ((h : Int) / 65536 % 256), .int .u8 ((h : Int) / 16777216)]))
    (hg2 : (w1.alloc o).grownBy w2 v1.ownBlock) :
    w2.ownsRow w.heap.size 5 1 v2 (Sp.sealed xs).length (By (Sp.sealed xs)) ∧ Below w.heap.size w w2 := by
  rw [tail4_cells, List.nil_append, ← By_app, ← he, Nat.zero_add, By_len] at hown2
  have e : (Sp.sealed xs).length = xs.length + 4 := Sp.sealed_len xs
  rw [e]
  refine ⟨hown2, ?_⟩
  have b1 : Below w.heap.size w w1 := (Below.refl _ _).grown hg1 (Nat.le_refl _) (by intro k hk; cases hk)
  refine (b1.alloc b1.size o).grown hg2 (by simp; have := b1.size; omega) ?_
  intro k hk
  exact (hown1.lt k hk).1

set_option maxHeartbeats 400000 in
theorem sealed_any (p : Option Addr) (B n c : Nat) (xs : List Nat) (w : World) (hr : Rd B w (.slice p n c) (By xs)) (hx : ∀ x ∈ xs, x < 256) (hn : n ≤ 10000000000000) :
    Calls Tryz.prog 27 #[.slice p n c] w fun e w' => ∃ v, e = .returned v ∧ w'.ownsRow w.heap.size 5 1 v (Sp.sealed xs).length (By (Sp.sealed xs)) ∧ Below w.heap.size w w' := by
  obtain ⟨hl, hlc⟩ := hr.len
  rw [By_len] at hl
  have HL : Hid (n = xs.length) := hl
  have hs := Sp.sum_lt xs
  have hsum := sum_any p B n c xs w hr hx (by omega)
  have HB := hide hsum
  have HR := hide hr
  have HE : Hid (Sp.sealed xs = xs ++ Sp.tail4 (Sp.sum xs)) := rfl
  clear hl hr hx hsum
  generalize Sp.sum xs = h at *
  go_enter Tryz.func27, Tryz.ntmps27
  go_wp2_with (first
    | (go_at_call 77; refine at_same (unhide HB) ?_)
    | (at_builtin; refine wpList_app _ rfl (.tmp 7) (.tmp 8) 49 rfl w.heap.size 5 (.int .u8 0) 1 Tryz.underlying49 Ty.u8 rfl (.slice none 0 0) 0 [] rfl (World.ownsRow_nil _ _ _ _) (.slice p n c) (By xs) rfl ⟨B, unhide HR⟩ (one_By xs) (by rw [By_len, ← HL.out]; unfold maxLen; omega) (by rw [By_len, ← HL.out]; omega) (Nat.le_refl _) ?_; intro v1 w1 hown1 hg1 hb1)
    | (at_builtin; refine wpList_app _ rfl (.tmp 10) (.tmp 25) 49 rfl w.heap.size 5 (.int .u8 0) 1 Tryz.underlying49 Ty.u8 rfl v1 _ _ rfl (hown1.alloc _) _ _ rfl ⟨_, Rd.lit w1 [Value.int .u8 ((h : Int) % 256), .int .u8 ((h : Int) / 256 % 256), .int .u8 ((h : Int) / 65536 % 256), .int .u8 ((h : Int) / 16777216)] 5⟩ (one_four _ _ _ _) (by rw [By_len, ← HL.out]; unfold maxLen; simp; omega) (by rw [By_len, ← HL.out]; simp; omega) (by have := hg1.size; simp; omega) ?_; intro v2 w2 hown2 hg2 hb2))
  go_ret
  exact ⟨v2, rfl, sealed_end HE.out hown1 hg1 hown2 hg2⟩
theorem made_zero (l : List Bool) : (madeCells (Value.int .u8 0).cells ((l.length + 7) / 8 * 1)).toList = By (Sp.packTo l 0) := by
  show (madeCells #[Value.int .u8 0] ((l.length + 7) / 8 * 1)).toList = _
  rw [toList_madeCells_one, Nat.mul_one]
  simp [By, Sp.packTo]

theorem or_u8 (x k : Nat) (hx : x < 256) : bits BinOp.or IntKind.u8 (x : Int) (2 ^ (k % 8) % 256) = ((x ||| 2 ^ (k % 8) : Nat) : Int) := by
  have hp : 2 ^ (k % 8) < 256 := Nat.lt_of_lt_of_le (Nat.pow_lt_pow_right (by omega) (Nat.mod_lt k (by omega) : k % 8 < 8)) (by decide)
  have e : ((2 : Int) ^ (k % 8) % 256) = ((2 ^ (k % 8) : Nat) : Int) := by
    rw [← Nat.mod_eq_of_lt hp]
    simp
  rw [e]
  exact u8_or_nat x (2 ^ (k % 8)) hx hp
theorem By_set (xs : List Nat) (j y : Nat) : By (xs.set j y) = (By xs).set j (.int .u8 (y : Int)) := by simp [By, List.map_set]

theorem pack_no {l : List Bool} {k : Nat} (h : l[k]?.getD false = false) : Sp.packTo l (k + 1) = Sp.packTo l k := by simp [Sp.packTo, h]
theorem pack_yes {l : List Bool} {k : Nat} (h : l[k]?.getD false = true) : Sp.packTo l (k + 1) = (Sp.packTo l k).set (k / 8) (((Sp.packTo l k)[k / 8]?.getD 0) ||| 2 ^ (k % 8)) := by simp [Sp.packTo, h]

set_option maxHeartbeats 400000 in
theorem bits_any (p : Option Addr) (B n c : Nat) (l : List Bool) (w : World) (hr : Rd B w (.slice p n c) (Bo l)) (hB : B ≤ w.heap.size) (hn : n ≤ 1000000000000) :
    Calls Tryz.prog 29 #[.slice p n c] w fun e w' => ∃ v, e = .returned v ∧ w'.ownsRow w.heap.size 5 1 v (Sp.pack l).length (By (Sp.pack l)) ∧ Below w.heap.size w w' := by
  obtain ⟨hl, hlc⟩ := hr.len
  rw [Bo_len] at hl
  subst hl
  obtain ⟨i0, hi, hz0, hz1, hz2⟩ := info_parts Ty.u8
  have Hb : Hid (i0.bytes = 1) := hz2
  clear hz2
  obtain ⟨m, hmm⟩ : ∃ m, m = (l.length + 7) / 8 := ⟨_, rfl⟩
  have hm : m ≤ 1000000000000 := by omega
  have HM := hide hmm
  have HM2 : Hid ((madeCells (Value.int .u8 0).cells (m * 1)).toList = By (Sp.packTo l 0)) := by rw [hmm]; exact made_zero l
  clear hmm
  go_enter Tryz.func29, Tryz.ntmps29
  go_wp2_with (at_make; refine wpList_make_full _ rfl (.tmp 8) (.tmp 8) 49 rfl w.heap.size 5 i0 (.int .u8 0) 1 Tryz.underlying49 hi hz0 hz1 .i64 .i64 _ _ m rfl rfl (by rw [unhide HM]; go_num) (by rw [unhide HM]; go_num) (by rw [Hb.out]; omega) (by unfold maxLen; omega) (Nat.le_refl _) ?_; intro w1 hown1 hg1)
  rw [HM2.out] at hown1
  have hb1 : Below w.heap.size w w1 := (Below.refl _ _).grown hg1 (Nat.le_refl _) (by intro k hk; cases hk)
  clear hg1 hi hz0 hz1
  go_loopw [4] (fun i wr => ∃ k : Nat, k ≤ l.length ∧ i = .int .i64 k ∧ wr.ownsRow w.heap.size 5 1 (.slice (some ⟨w.heap.size, 0, none⟩) m m) m (By (Sp.packTo l k)) ∧ Below w.heap.size w wr) (fun i _ => l.length - (intOf i).toNat)
  case atStart => exact ⟨0, Nat.zero_le _, rfl, hown1, hb1⟩
  case round =>
    obtain ⟨k, hk, rfl, hown, hbel⟩ := hrel
    clear hown1 hb1
    by_cases hlt : k < l.length
    · obtain ⟨b, o, rfl, hb, hc⟩ := (hr.below (hbel.mono hB)).at k _ (Bo_at l k hlt)
      have hk8 : k / 8 < m := by rw [unhide HM]; omega
      have hpl : (Sp.packTo l k).length = m := by rw [Sp.packTo_len, unhide HM]
      have hc8 := (hown.cellAt (k / 8) (by omega)).trans (By_at (Sp.packTo l k) (k / 8) (by omega))
      have hf8 := hown.frozenAt (k / 8)
      have hx : (Sp.packTo l k)[k / 8] < 256 := Sp.packTo_lt l k _ (List.getElem_mem _)
      cases hlk : l[k] with
      | false =>
        rw [hlk] at hc
        have HN := hide (pack_no (l := l) (k := k) (by simp [hlt, hlk]))
        clear hpl hlk hc8 hf8 hx
        go_wp2
        go_roundw
        case rel => exact ⟨k + 1, by omega, by go_num, by rw [unhide HN]; exact hown, hbel⟩
        case measure => simp [intOf]; omega
      | true =>
        rw [hlk] at hc
        have HN := hide (pack_yes (l := l) (k := k) (by simp [hlt, hlk]))
        have HG : Hid ((Sp.packTo l k)[k / 8]?.getD 0 = (Sp.packTo l k)[k / 8]) := by simp [Hid, hpl, hk8]
        have HP := hide hpl
        clear hlk
        generalize hX : (Sp.packTo l k)[k / 8] = x at *
        clear hX hpl
        go_wp2_with fail
        go_region
        all_goals go_wp2
        go_roundw
        case rel =>
          refine ⟨k + 1, by omega, by go_num, ?_, (hbel.setCell (Nat.le_refl _) _).drew⟩
          rw [or_u8 x k hx, unhide HN, unhide HG, By_set]
          exact (hown.stored (k / 8) _).1.drew
        case measure => simp [intOf]; omega
    · have he : k = l.length := by omega
      subst he
      go_wp2
      go_ret
      exact ⟨_, rfl, by rw [Sp.pack_len, ← unhide HM]; exact hown, hbel⟩
end Rf
end Go.Proofs.YtolkjadklbchfaaGreatDoor
/- Walks: Width, Power, Fit. -/
open Go Go.RowKit
namespace Go.Proofs.YtolkjadklbchfaaGreatDoor
namespace Rf
open Mem

theorem take_snoc {α : Type} (l : List α) (k : Nat) (h : k < l.length) : l.take (k + 1) = l.take k ++ [l[k]] := List.take_succ_eq_append_getElem h

theorem shr_pos {v j : Nat} : (0 : Int) < (v : Int) / 2 ^ j ↔ j < Sp.blen v := by
  have e : ((v : Int) / 2 ^ j) = ((v / 2 ^ j : Nat) : Int) := by simp
  have h := Sp.blen_le (v := v) (k := j)
  rw [e]
  have h2 : v / 2 ^ j = 0 ↔ v < 2 ^ j := by
    rw [Nat.div_eq_zero_iff]
    have := Nat.pow_pos (n := j) (show 0 < 2 by omega)
    omega
  rw [show (0 : Int) = ((0 : Nat) : Int) from rfl, Int.ofNat_lt]
  generalize v / 2 ^ j = z at *
  omega

set_option maxHeartbeats 400000 in
theorem width_any (p : Option Addr) (B n c : Nat) (vs : List Nat) (w : World) (hr : Rd B w (.slice p n c) (U64 vs)) (hv : ∀ x ∈ vs, x < 18446744073709551616) (hn : n ≤ 1000000000000) :
    Calls Tryz.prog 28 #[.slice p n c] w fun e w' => e = .returned (.int .i64 (Sp.widthOf vs : Nat)) ∧ w' = w := by
  obtain ⟨hl, hlc⟩ := hr.len
  rw [U64_len] at hl
  subst hl
  go_enter Tryz.func28, Tryz.ntmps28
  go_wp2
  go_loop [3, 4] (fun a i => ∃ k : Nat, k ≤ vs.length ∧ i = .int .i64 k ∧ a = .int .i64 (Sp.widthOf (vs.take k) : Nat)) (fun _ i => vs.length - (intOf i).toNat)
  case atStart => exact ⟨0, Nat.zero_le _, rfl, rfl⟩
  case round =>
    obtain ⟨k, hk, rfl, rfl⟩ := hrel
    have h64 : Sp.widthOf (vs.take k) ≤ 64 := Sp.widthOf_le _ (fun x hx => hv x (List.mem_of_mem_take hx))
    by_cases hlt : k < vs.length
    · obtain ⟨b, o, rfl, hb, hc⟩ := hr.at k _ (U64_at vs k hlt)
      have HS : Hid (Sp.widthOf (vs.take (k + 1)) = max (Sp.widthOf (vs.take k)) (Sp.blen vs[k])) := by
        rw [take_snoc vs k hlt]
        exact Sp.widthOf_snoc _ _
      have hv64 : Sp.blen vs[k] ≤ 64 := Sp.blen_le.2 (by have := hv _ (List.getElem_mem hlt); simpa using this)
      have hvk : vs[k] < 18446744073709551616 := hv _ (List.getElem_mem hlt)
      generalize hg : Sp.widthOf (vs.take k) = a at *
      generalize hg' : Sp.widthOf (vs.take (k + 1)) = a' at *
      have HG := hide hg'
      generalize vs[k] = x at *
      clear hg hg' hv
      go_wp2
      go_loop [3] (fun t => ∃ j : Nat, a ≤ j ∧ j ≤ max a (Sp.blen x) ∧ t = .int .i64 j) (fun t => 64 - (intOf t).toNat)
      case atStart => exact ⟨a, Nat.le_refl _, by omega, rfl⟩
      case round =>
        obtain ⟨j, hj1, hj2, rfl⟩ := hrel
        by_cases hjx : j < Sp.blen x
        · have hpos : (0 : Int) < (x : Int) / 2 ^ j := shr_pos.2 hjx
          have hj64 : j < 64 := by omega
          go_wp2
          go_round
          case rel => exact ⟨j + 1, by omega, by omega, by go_num⟩
          case measure => simp [intOf]; omega
        · have hneg : ¬ (0 : Int) < (x : Int) / 2 ^ j := fun h => hjx (shr_pos.1 h)
          by_cases hj64 : j < 64
          all_goals
            go_wp2
            go_round
            case rel => exact ⟨k + 1, by omega, by go_num, by rw [unhide HG, HS.out]; go_num⟩
            case measure => simp [intOf]; omega
    · have he : k = vs.length := by omega
      subst he
      go_wp2
      go_ret
      exact ⟨ret_int (by simp), rfl⟩

theorem pow_step {n m f q : Nat} (h : 0 < m ∧ 2 * 2 ^ q * m ≤ n) : Sp.powTo n m (f + 1) q = Sp.powTo n m f (q + 1) := by simp [Sp.powTo, h]
theorem pow_stop {n m f q : Nat} (h : ¬ (0 < m ∧ 2 * 2 ^ q * m ≤ n)) : Sp.powTo n m f q = q := by
  cases f with
  | zero => rfl
  | succ f => simp only [Sp.powTo]; rw [if_neg h]
theorem pow_fits {n m q : Nat} (h : 0 < m ∧ 2 * 2 ^ q * m ≤ n) : q + 1 ≤ n := by
  have h1 : q + 1 < 2 ^ (q + 1) := Nat.lt_two_pow_self
  have h2 : 2 ^ (q + 1) ≤ 2 * 2 ^ q * m := by
    rw [Nat.pow_succ, Nat.mul_comm (2 ^ q) 2]
    exact Nat.le_mul_of_pos_right _ h.1
  omega

set_option maxHeartbeats 400000 in
theorem power_any (n m : Nat) (w : World) (hn : n ≤ 1000000) (hm : m ≤ 1000000) :
    Calls Tryz.prog 73 #[.int .i64 n, .int .i64 m] w fun e w' => e = .returned (.tuple #[.int .i64 (Sp.pow n m : Nat), .int .i64 (Sp.tw (Sp.pow n m) : Nat)]) ∧ w' = w := by
  go_enter Tryz.func73, Tryz.ntmps73
  go_wp2
  go_loop [6, 7] (fun a b => ∃ q : Nat, q ≤ n ∧ a = .int .i64 q ∧ b = .int .i64 (Sp.tw q : Nat) ∧ Sp.powTo n m (n - q) q = Sp.pow n m ∧ (q = 0 ∨ (0 < m ∧ 2 ^ q * m ≤ n))) (fun a _ => n - (intOf a).toNat)
  case atStart => exact ⟨0, Nat.zero_le _, rfl, rfl, rfl, Or.inl rfl⟩
  case round =>
    obtain ⟨q, hq, rfl, rfl, hpow, hinv⟩ := hrel
    have HTW : Hid (Sp.tw q = 2 ^ q) := rfl
    have HTW' : Hid (Sp.tw (q + 1) = 2 ^ (q + 1)) := rfl
    have ht : 2 ^ q ≤ 1000000 := by
      rcases hinv with rfl | ⟨h0, h1⟩
      · decide
      · exact Nat.le_trans (Nat.le_mul_of_pos_right _ h0) (by omega)
    have h2 : 2 * 2 ^ q * m ≤ 2000000000000 := Nat.mul_le_mul (show 2 * 2 ^ q ≤ 2000000 by omega) hm
    by_cases hc : 0 < m ∧ 2 * 2 ^ q * m ≤ n
    · have hf := pow_fits hc
      have HP : Hid (Sp.powTo n m (n - (q + 1)) (q + 1) = Sp.pow n m) := by
        rw [← hpow, ← pow_step hc, show n - (q + 1) + 1 = n - q from by omega]
        exact rfl
      have HS : Hid (2 ^ (q + 1) = 2 * 2 ^ q) := by rw [Hid, Nat.pow_succ]; omega
      clear hpow hinv
      obtain ⟨hc1, hc2⟩ := hc
      generalize hT : 2 ^ q = t at *
      generalize hT' : 2 ^ (q + 1) = t' at *
      have HT := hide hT
      have HT' := hide hT'
      rw [HTW.out]
      clear hT hT'
      have e : (2 * (t : Int) * (m : Int)) = ((2 * t * m : Nat) : Int) := by simp
      have i1 : (2 * (t : Int) * (m : Int)) ≤ (n : Int) := by rw [e]; omega
      have i2 : (0 : Int) ≤ (2 * (t : Int) * (m : Int)) := by rw [e]; omega
      clear e
      go_wp2
      go_round
      case rel => exact ⟨q + 1, by omega, by go_num, by rw [HTW'.out, HS.out]; go_num, unhide HP, Or.inr ⟨hc1, by rw [unhide HT', HS.out]; exact hc2⟩⟩
      case measure => simp [intOf]; omega
    · have HP : Hid (Sp.pow n m = q) := by rw [← hpow]; exact pow_stop hc
      clear hpow hinv
      by_cases hc1 : 0 < m
      · have hc2 : ¬ 2 * 2 ^ q * m ≤ n := fun h => hc ⟨hc1, h⟩
        clear hc
        generalize hT : 2 ^ q = t at *
        rw [HTW.out]
        have HT := hide hT
        clear hT
        have e : (2 * (t : Int) * (m : Int)) = ((2 * t * m : Nat) : Int) := by simp
        have i1 : ¬ (2 * (t : Int) * (m : Int)) ≤ (n : Int) := by rw [e]; omega
        have i2 : (2 * (t : Int) * (m : Int)) ≤ 2000000000000 := by rw [e]; omega
        have i3 : (0 : Int) ≤ (2 * (t : Int) * (m : Int)) := by rw [e]; omega
        clear e
        go_wp2
        go_ret2
        exact ⟨by rw [unhide HP, HTW.out]; rfl, rfl⟩
      · clear hc
        go_wp2
        go_ret2
        exact ⟨by rw [unhide HP]; rfl, rfl⟩
end Rf
end Go.Proofs.YtolkjadklbchfaaGreatDoor
/- Walks: Fit. -/
open Go Go.RowKit
namespace Go.Proofs.YtolkjadklbchfaaGreatDoor
namespace Rf
open Mem

/-- The least that the mark at the place k may be. -/
def lo (ms : List Int) (k : Nat) : Int := if k = 0 then 0 else ms.getD (k - 1) 0 + 1

theorem upTo_ok {n : Nat} {ms : List Int} {k : Nat} (hk : k < ms.length) (h1 : lo ms k ≤ ms[k]) (h2 : ms[k] < n) : Sp.upTo n (lo ms k) (ms.drop k) = Sp.upTo n (lo ms (k + 1)) (ms.drop (k + 1)) := by
  rw [List.drop_eq_getElem_cons hk]
  have e : lo ms (k + 1) = ms[k] + 1 := by simp [lo, List.getD, hk]
  rw [e]
  simp [Sp.upTo, h1, h2]
theorem upTo_bad {n : Nat} {ms : List Int} {k : Nat} (hk : k < ms.length) (h : ms[k] < lo ms k ∨ n ≤ ms[k]) : Sp.upTo n (lo ms k) (ms.drop k) = false := by
  rw [List.drop_eq_getElem_cons hk]
  have : ¬ (lo ms k ≤ ms[k] ∧ ms[k] < n) := by omega
  simp [Sp.upTo]
  intro h1 h2
  omega

set_option maxHeartbeats 1000000 in
theorem fit_any (pv : Option Addr) (n cv : Nat) (p : Option Addr) (B m c : Nat) (ms : List Int) (w : World) (hr : Rd B w (.slice p m c) (I64 ms)) (hn : n ≤ 100000000000000) (hm : m ≤ 100000000000000) :
    Calls Tryz.prog 12 #[.slice pv n cv, .slice p m c] w fun e w' => e = .returned (.int .i64 (Sp.fit n ms)) ∧ ∃ q, w' = w.drewN q := by
  obtain ⟨hl, hlc⟩ := hr.len
  rw [I64_len] at hl
  subst hl
  by_cases h200 : 200 < n
  · have hf : Hid (Sp.fit n ms = 1) := by simp [Hid, Sp.fit, h200]
    go_enter Tryz.func12, Tryz.ntmps12
    go_wp2
    go_ret
    exact ⟨ret_int hf.out.symm, 0, rfl⟩
  · have hf : Hid (Sp.fit n ms = if Sp.upTo n 0 ms then 0 else 2) := by simp [Hid, Sp.fit, h200]
    go_enter Tryz.func12, Tryz.ntmps12
    go_wp2
    go_loopw [5] (fun i wr => ∃ k : Nat, k ≤ ms.length ∧ i = .int .i64 k ∧ Sp.upTo n 0 ms = Sp.upTo n (lo ms k) (ms.drop k) ∧ 0 ≤ lo ms k ∧ ∃ q, wr = w.drewN q) (fun i _ => ms.length - (intOf i).toNat)
    case atStart => exact ⟨0, Nat.zero_le _, rfl, by simp [lo], by simp [lo], 0, rfl⟩
    case round =>
      obtain ⟨k, hk, rfl, hup, hlo, q, rfl⟩ := hrel
      have HU := hide hup
      clear hup
      by_cases hlt : k < ms.length
      · obtain ⟨b, o, rfl, hb, hc⟩ := hr.at k _ (I64_at ms k hlt)
        have HOK := hide (upTo_ok (n := n) hlt)
        have HBAD := hide (upTo_bad (n := n) hlt)
        have hlk : lo ms (k + 1) = ms[k] + 1 := by simp [lo, List.getD, hlt]
        have HLK := hide hlk
        have hprev : 0 < k → w.cell? ⟨b, o + (k - 1), none⟩ = some (.int .i64 (lo ms k - 1)) := by
          intro h0
          obtain ⟨b2, o2, he, _, h2⟩ := hr.at (k - 1) _ (I64_at ms (k - 1) (by omega))
          simp only [Option.some.injEq, Addr.mk.injEq] at he
          obtain ⟨rfl, rfl, _⟩ := he
          rw [h2]
          have : lo ms k = ms[k - 1] + 1 := by simp [lo, List.getD, show k ≠ 0 by omega, show k - 1 < ms.length by omega]
          rw [this]
          congr 2
          omega
        have hl0 : k = 0 → lo ms k = 0 := by intro h; simp [lo, h]
        have HR := hide hr
        clear hlk hr
        generalize hM : ms[k] = x at *
        generalize hLL : lo ms k = l0 at *
        clear hM
        have HLL := hide hLL
        clear hLL
        have HF : Hid (Sp.upTo n 0 ms = false → Sp.fit n ms = 2) := fun h => by rw [hf.out, h]; rfl
        by_cases h1 : x < 0
        · have hd1 : decide (x < 0) = true := by simpa using h1
          have hbad := HF.out (by rw [unhide HU]; exact (unhide HBAD) (Or.inl (by omega)))
          have HX := hide hbad
          clear hbad
          go_wp2_with fail
          go_quiet (fail)
          go_wp2
          go_ret
          exact ⟨ret_int (unhide HX).symm, _, World.drewN_drewN ..⟩
        · by_cases h2 : (n : Int) ≤ x
          · have hd1 : decide (x < 0) = false := by simpa using h1
            have hd2 : decide ((n : Int) ≤ x) = true := by simpa using h2
            have hbad := HF.out (by rw [unhide HU]; exact (unhide HBAD) (Or.inr h2))
            have HX := hide hbad
            clear hbad
            go_wp2_with fail
            go_quiet (fail)
            go_wp2
            go_ret
            exact ⟨ret_int (unhide HX).symm, _, World.drewN_drewN ..⟩
          · by_cases h0 : 0 < k
            · have hpv := hprev h0
              by_cases h3 : x ≤ l0 - 1
              · have hd1 : decide (x < 0) = false := by simpa using h1
                have hd2 : decide ((n : Int) ≤ x) = false := by simpa using h2
                have hd3 : decide (x ≤ l0 - 1) = true := by simpa using h3
                have hd0 : decide ((0 : Int) < (k : Int)) = true := by simpa using h0
                have hbad := HF.out (by rw [unhide HU]; exact (unhide HBAD) (Or.inl (by omega)))
                have HX := hide hbad
                clear hbad hprev
                go_wp2_with fail
                go_quiet (fail)
                go_wp2
                go_ret
                exact ⟨ret_int (unhide HX).symm, _, World.drewN_drewN ..⟩
              · have hd1 : decide (x < 0) = false := by simpa using h1
                have hd2 : decide ((n : Int) ≤ x) = false := by simpa using h2
                have hd3 : decide (x ≤ l0 - 1) = false := by simpa using h3
                have hd0 : decide ((0 : Int) < (k : Int)) = true := by simpa using h0
                have HX := hide ((unhide HOK) (by omega) (by omega))
                clear hprev
                go_wp2_with fail
                go_quiet (fail)
                go_wp2
                go_roundw
                case rel => exact ⟨k + 1, by omega, by go_num, (unhide HU).trans (unhide HX), by rw [unhide HLK]; omega, _, rfl⟩
                case measure => simp [intOf]; omega
            · have hd1 : decide (x < 0) = false := by simpa using h1
              have hd2 : decide ((n : Int) ≤ x) = false := by simpa using h2
              have hd0 : decide ((0 : Int) < (k : Int)) = false := by simpa using h0
              have HX := hide ((unhide HOK) (by have := hl0 (by omega); omega) (by omega))
              clear hprev
              go_wp2_with fail
              go_quiet (fail)
              go_wp2
              go_roundw
              case rel => exact ⟨k + 1, by omega, by go_num, (unhide HU).trans (unhide HX), by rw [unhide HLK]; omega, _, rfl⟩
              case measure => simp [intOf]; omega
      · have he : k = ms.length := by omega
        have HX : Hid (Sp.fit n ms = 0) := by
          rw [Hid, hf.out, unhide HU, he]
          simp [Sp.upTo]
        clear he
        go_wp2
        go_ret
        exact ⟨ret_int (unhide HX).symm, _, rfl⟩
end Rf
end Go.Proofs.YtolkjadklbchfaaGreatDoor
