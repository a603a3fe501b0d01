import Derived.Test.YtolkjadklbchfaaDoorG3
import Derived.Test.YtolkjadklbchfaaDoorM1
import Derived.Laws.Bits128
import Derived.Lib.TrailingZeros
import Derived.Test.YtolkjadklbchfaaDoorG4
import Derived.Test.YtolkjadklbchfaaDoorG2
import Derived.Laws.ResultCell
/- Walks of the library: bits.OnesCount64, bits.TrailingZeros64. -/
open Go Go.RowKit
namespace Go.Proofs.YtolkjadklbchfaaDoor
namespace Pr
open Mem Rf

theorem and_n {a b c : Nat} {y m : Int} (hy : y = (a : Int)) (ha : a < 18446744073709551616) (hm : m = (b : Int)) (hb : b < 18446744073709551616) (h : a &&& b = c) : bits BinOp.and IntKind.u64 y m = (c : Int) := by
  rw [hy, hm, u64_and_nat a b ha hb, h]

set_option maxHeartbeats 1000000 in
theorem ones_any (x : Nat) (hx : x < 18446744073709551616) (w : World) :
    Calls Tryd.prog 105 #[.int .u64 (x : Int)] w fun e w' => e = .returned (.int .i64 (Sp.pop 64 x : Nat)) ∧ w' = w := by
  obtain ⟨x1, x2, x3, h1, l1, h2, l2, h3, l3, h4⟩ := Sp.pop64 x hx
  obtain ⟨a1, k1⟩ : ∃ a, x / 2 &&& 6148914691236517205 = a := ⟨_, rfl⟩
  obtain ⟨a2, k2⟩ : ∃ a, x &&& 6148914691236517205 = a := ⟨_, rfl⟩
  obtain ⟨b1, k3⟩ : ∃ a, x1 / 4 &&& 3689348814741910323 = a := ⟨_, rfl⟩
  obtain ⟨b2, k4⟩ : ∃ a, x1 &&& 3689348814741910323 = a := ⟨_, rfl⟩
  rw [k1, k2] at h1
  rw [k3, k4] at h2
  have e1 : bits BinOp.and IntKind.u64 ((x : Int) / 2) 6148914691236517205 = (a1 : Int) := and_n (a := x / 2) (by omega) (by omega) rfl (by decide) k1
  have e2 : bits BinOp.and IntKind.u64 (x : Int) 6148914691236517205 = (a2 : Int) := and_n (a := x) rfl hx rfl (by decide) k2
  have e3 : bits BinOp.and IntKind.u64 (((a1 : Int) + (a2 : Int)) / 4) 3689348814741910323 = (b1 : Int) := and_n (a := x1 / 4) (by omega) (by omega) rfl (by decide) k3
  have e4 : bits BinOp.and IntKind.u64 ((a1 : Int) + (a2 : Int)) 3689348814741910323 = (b2 : Int) := and_n (a := x1) (by omega) l1 rfl (by decide) k4
  have e5 : bits BinOp.and IntKind.u64 (((b1 : Int) + (b2 : Int)) / 16 + ((b1 : Int) + (b2 : Int))) 1085102592571150095 = (x3 : Int) := and_n (a := x2 / 16 + x2) (by omega) (by omega) rfl (by decide) h3
  have HF := hide h4
  have hs1 : a1 + a2 < 18446744073709551616 := by omega
  have hs2 : b1 + b2 < 5000000000000000000 := by omega
  clear h1 h2 h3 h4 k1 k2 k3 k4 l1 l2
  clear x1 x2
  go_enter Tryd.func105, Tryd.ntmps105
  go_wp2
  go_ret
  refine ⟨ret_int ?_, rfl⟩
  rw [i64_and127, ← unhide HF]
  omega

theorem p64 : (2 : Nat) ^ 64 = 18446744073709551616 := by decide
theorem key_n (pc : Nat) : IntKind.u64.wrap ((pc : Int) * 285870213051353865) / 288230376151711744 = ((pc * 285870213051353865 % 18446744073709551616 / 288230376151711744 : Nat) : Int) := by
  rw [IntKind.wrap_u64]
  omega

/-- The table of de Bruijn in the block of its variable. -/
def Bru (w : World) : Prop := 1 < w.heap.size ∧ ∀ j, j < 64 → w.cell? ⟨1, j, none⟩ = some (.int .u8 ((Lib.deBruijn64tab.getD j 0 : Nat) : Int))
theorem Bru.below {w w' : World} {B : Nat} (h : Bru w) (hb : Below B w w') (hB : 1 < B) : Bru w' :=
  ⟨Nat.lt_of_lt_of_le h.1 hb.size, fun j hj => by rw [hb.cell (p := ⟨1, j, none⟩) hB]; exact h.2 j hj⟩

set_option maxHeartbeats 1000000 in
theorem trail_core (x c idx : Nat) (w : World) (hx0 : ((x : Int) == 0) = false)
    (key : IntKind.u64.wrap (bits BinOp.and IntKind.u64 (x : Int) (IntKind.u64.wrap (-(x : Int))) * 285870213051353865) / 288230376151711744 = (idx : Int))
    (hi : idx < 64) (hk : c < 64) (hcell : w.cell? ⟨1, idx, none⟩ = some (.int .u8 (c : Int))) :
    Calls Tryd.prog 110 #[.int .u64 (x : Int)] w fun e w' => e = .returned (.int .i64 (c : Nat)) ∧ w' = w := by
  go_enter Tryd.func110, Tryd.ntmps110
  go_wp2_with (simp only [key])
  go_ret
  exact ⟨rfl, rfl⟩
theorem trail_key (x a : Nat) (hx : x < 18446744073709551616) (h0 : x ≠ 0) (hlow : x &&& (18446744073709551616 - x) = a) :
    IntKind.u64.wrap (bits BinOp.and IntKind.u64 (x : Int) (IntKind.u64.wrap (-(x : Int))) * 285870213051353865) / 288230376151711744 = ((a * 285870213051353865 % 18446744073709551616 / 288230376151711744 : Nat) : Int) := by
  have e1 : IntKind.u64.wrap (-(x : Int)) = ((18446744073709551616 - x : Nat) : Int) := by rw [IntKind.wrap_u64]; omega
  rw [e1, u64_and_nat x _ hx (by omega), hlow]
  exact key_n a
theorem trail_any (x : Nat) (hx : x < 18446744073709551616) (h0 : x ≠ 0) :
    ∃ c m, c < 64 ∧ x = 2 ^ c * (2 * m + 1) ∧ ∀ w, Bru w → Calls Tryd.prog 110 #[.int .u64 (x : Int)] w fun e w' => e = .returned (.int .i64 (c : Nat)) ∧ w' = w := by
  obtain ⟨m, hm, _⟩ := Lib.ctzFrom_spec 64 x (by omega) (by rw [p64]; exact hx)
  obtain ⟨hlow, hk⟩ := Lib.lowest_bit 64 x h0 (by rw [p64]; exact hx)
  have ec : Lib.ctz 64 x = Lib.ctzFrom 64 x := by simp only [Lib.ctz]; rw [if_neg h0]
  rw [← ec] at hm
  refine ⟨Lib.ctz 64 x, m, hk, hm, fun w hT => ?_⟩
  obtain ⟨hi, htab⟩ := Lib.deBruijn64_at _ hk
  rw [p64] at hlow
  have hcell := hT.2 _ hi
  rw [htab] at hcell
  exact trail_core x _ _ w (by rw [beq_eq_false_iff_ne]; omega) (trail_key x _ hx h0 hlow) hi hk hcell
end Pr
end Go.Proofs.YtolkjadklbchfaaDoor
/- Walks of the program: slices.Clone, bitrow.counted, Of, Bytes. -/
open Go Go.RowKit
namespace Go.Proofs.YtolkjadklbchfaaDoor
namespace Pr
open Mem Rf

theorem eql_nil {P : Program} (w : World) {t e : TypeId} (a : Option Addr) (n c : Nat) (ht : P.underlying t = some (.slice e)) : (binOp .eql t (.slice a n c) (.slice none 0 0)).run P w = .ok (.bool a.isNone) w := by
  have h : ∀ d : Nat, (Op.equalIn (d + 1) t (.slice a n c) (.slice none 0 0)).run P w = .ok a.isNone w := fun d => by
    cases a <;> simp [Op.equalIn, run_underlying ht]
  simp only [binOp]
  simp [Op.equal, Op.maxDepth, h 9999]

theorem own_empty (w : World) (e : TypeId) : (w.alloc (.cells #[] e)).ownsRow w.heap.size e 1 (.slice (some ⟨w.heap.size, 0, none⟩) 0 0) 0 [] := World.ownsRow_made w #[] 0 (Nat.le_refl _) (by unfold maxLen; omega) rfl

set_option maxHeartbeats 400000 in
theorem clone64_any (p : Option Addr) (B n c : Nat) (xs : List Nat) (w : World) (hr : Rd B w (.slice p n c) (U64 xs)) (hB : B ≤ w.heap.size) (hn : n ≤ 1000000000000) :
    Calls Tryd.prog 88 #[.slice p n c] w fun e w' => ∃ v, e = .returned v ∧ w'.ownsRow w.heap.size 27 1 v xs.length (U64 xs) ∧ Below w.heap.size w w' := by
  obtain ⟨hl, hlc⟩ := hr.len
  rw [U64_len] at hl
  cases p with
  | none =>
    obtain ⟨rfl, rfl, hx⟩ := hr.isNil
    have hx' : xs = [] := by
      cases xs with
      | nil => rfl
      | cons x l => cases hx
    subst hx'
    clear hl hr hx
    have hq : ∀ (W : World) (a : Option Addr) (n c : Nat), (binOp .eql 22 (.slice a n c) (.slice none 0 0)).run Tryd.prog W = .ok (.bool a.isNone) W := fun W a n c => eql_nil W a n c Tryd.underlying22
    go_enter Tryd.func88, Tryd.ntmps88
    go_wp2
    go_ret
    exact ⟨_, rfl, World.ownsRow_nil _ _ _ _, Below.refl _ _⟩
  | some a =>
    have HR := hide hr
    have HL := hide hl
    clear hl hr
    have hq : ∀ (W : World) (a : Option Addr) (n c : Nat), (binOp .eql 22 (.slice a n c) (.slice none 0 0)).run Tryd.prog W = .ok (.bool a.isNone) W := fun W a n c => eql_nil W a n c Tryd.underlying22
    go_enter Tryd.func88, Tryd.ntmps88
    go_wp2_with (at_builtin; refine wpList_app _ rfl (.tmp 5) (.tmp 6) 22 rfl w.heap.size 27 (.int .u64 0) 8 Tryd.underlying22 Ty.u64 rfl (.slice (some ⟨w.heap.size, 0, none⟩) 0 0) _ _ rfl (own_empty w _) _ _ rfl ⟨_, (unhide HR).alloc hB _⟩ (one_U64 _) (by rw [U64_len, ← unhide HL]; unfold maxLen; omega) (by rw [U64_len, ← unhide HL]; omega) (by simp) ?_; intro v1 w1 hown1 hg1 hb1)
    go_ret
    refine ⟨v1, rfl, ?_, ?_⟩
    · rw [U64_len] at hown1
      simpa using hown1
    · refine ((Below.refl _ _).alloc (Nat.le_refl _) _).grown hg1 (by simp) ?_
      intro k hk
      simp [Value.ownBlock] at hk
      omega

/-- The row of the counts behind k words. -/
def ahTo (ws : List Nat) (k : Nat) : List Nat := (List.range ws.length).map (fun i => if i < k then Sp.aheadN ws i else 0)
theorem ahTo_zero (ws : List Nat) : ahTo ws 0 = List.replicate ws.length 0 := by
  apply List.ext_getElem?
  intro j
  by_cases hj : j < ws.length
  · simp [ahTo, hj]
  · simp [ahTo, hj]
theorem ahTo_len (ws : List Nat) (k : Nat) : (ahTo ws k).length = ws.length := by simp [ahTo]
theorem ahTo_set (ws : List Nat) (k : Nat) (hk : k < ws.length) : ahTo ws (k + 1) = (ahTo ws k).set k (Sp.aheadN ws k) := by
  apply List.ext_getElem?
  intro j
  rw [List.getElem?_set]
  by_cases hjk : k = j
  · subst hjk
    simp [ahTo, hk]
  · rw [if_neg hjk]
    by_cases hj : j < ws.length
    · simp [ahTo, hj]
      by_cases h1 : j < k
      · simp [h1, show j < k + 1 from by omega]
      · simp [h1, show ¬ j < k + 1 from by omega]
    · simp [ahTo, hj]
theorem ahTo_end (ws : List Nat) : ahTo ws ws.length = Sp.aheads ws := by
  unfold ahTo Sp.aheads
  apply List.map_congr_left
  intro i hi
  simp [List.mem_range.1 hi]
theorem NI_set (xs : List Nat) (j y : Nat) : I64 (NI (xs.set j y)) = (I64 (NI xs)).set j (.int .i64 (y : Int)) := by simp [I64, NI, List.map_set]
theorem made_ints (n : Nat) : (madeCells (Value.int .i64 0).cells (n * 1)).toList = I64 (NI (List.replicate n 0)) := by
  show (madeCells #[Value.int .i64 0] (n * 1)).toList = _
  rw [toList_madeCells_one, Nat.mul_one]
  simp [I64, NI]
theorem made_u64s (n : Nat) : (madeCells (Value.int .u64 0).cells (n * 1)).toList = U64 (List.replicate n 0) := by
  show (madeCells #[Value.int .u64 0] (n * 1)).toList = _
  rw [toList_madeCells_one, Nat.mul_one]
  simp [U64]
theorem made_u8s (n : Nat) : (madeCells (Value.int .u8 0).cells (n * 1)).toList = By (List.replicate n 0) := by
  show (madeCells #[Value.int .u8 0] (n * 1)).toList = _
  rw [toList_madeCells_one, Nat.mul_one]
  simp [By]
theorem aheadN_small (ws : List Nat) (k : Nat) (hk : k ≤ ws.length) (h : ws.length ≤ 1000000) : Sp.aheadN ws k ≤ 64000000 := by
  have := Sp.aheadN_le ws k hk
  omega

set_option maxHeartbeats 1000000 in
theorem counted_any (p : Option Addr) (B n c : Nat) (ws : List Nat) (w : World) (hr : Rd B w (.slice p n c) (U64 ws)) (hB : B ≤ w.heap.size) (hws : ∀ x ∈ ws, x < 18446744073709551616) (hn : n ≤ 1000000) :
    Calls Tryd.prog 104 #[.slice p n c] w fun e w' => ∃ v, e = .returned v ∧ w'.ownsRow w.heap.size 3 1 v n (I64 (NI (Sp.aheads ws))) ∧ Below w.heap.size w w' := by
  obtain ⟨hl, hlc⟩ := hr.len
  rw [U64_len] at hl
  have HL := hide hl
  have HR := hide hr
  have HWS := hide hws
  obtain ⟨i0, hi, hz0, hz1, hz2⟩ := info_parts Ty.int
  have Hb : Hid (i0.bytes = 8) := hz2
  clear hz2 hl hr hws
  go_enter Tryd.func104, Tryd.ntmps104
  go_wp2_with (at_make; (refine wpList_make_full _ rfl (.tmp 8) (.tmp 8) 23 rfl w.heap.size 3 i0 (.int .i64 0) 1 Tryd.underlying23 hi hz0 hz1 .i64 .i64 _ _ n rfl rfl rfl rfl (by rw [Hb.out]; omega) (by unfold maxLen; omega) (Nat.le_refl _) ?_); intro w1 hown1 hg1)
  rw [made_ints] at hown1
  have hb1 : Below w.heap.size w w1 := (Below.refl _ _).grown hg1 (Nat.le_refl _) (by intro k hk; cases hk)
  have HS : Hid (w1.ownsRow w.heap.size 3 1 (.slice (some ⟨w.heap.size, 0, none⟩) n n) n (I64 (NI (ahTo ws 0))) ∧ Below w.heap.size w w1) := by
    rw [ahTo_zero, ← unhide HL]
    exact ⟨hown1, hb1⟩
  clear hg1 hi hz0 hz1 hown1 hb1
  go_loopw [4, 12] (fun o i wr => ∃ k : Nat, k ≤ n ∧ i = .int .i64 k ∧ o = .int .i64 (Sp.aheadN ws k : Nat) ∧ wr.ownsRow w.heap.size 3 1 (.slice (some ⟨w.heap.size, 0, none⟩) n n) n (I64 (NI (ahTo ws k))) ∧ Below w.heap.size w wr) (fun _ i _ => n - (intOf i).toNat)
  case atStart => exact ⟨0, Nat.zero_le _, rfl, rfl, unhide HS⟩
  case round =>
    obtain ⟨k, hk, rfl, rfl, hown, hbel⟩ := hrel
    clear HS
    by_cases hlt : k < n
    · have hlt' : k < ws.length := by rw [← unhide HL]; exact hlt
      obtain ⟨b, o, rfl, hb, hc⟩ := ((unhide HR).below (hbel.mono hB)).at k _ (U64_at ws k hlt')
      have hx : ws[k] < 18446744073709551616 := unhide HWS _ (List.getElem_mem _)
      have hlen : (ahTo ws k).length = n := by rw [ahTo_len, unhide HL]
      obtain ⟨cu, hck⟩ : ∃ u : Nat, wr.cell? ⟨w.heap.size, k, none⟩ = some (.int .i64 (u : Int)) := ⟨_, (hown.cellAt k (by omega)).trans (NI_at (ahTo ws k) k (by omega))⟩
      have hfk := hown.frozenAt k
      have hst := hown.stored k (.int .i64 (Sp.aheadN ws k : Nat))
      have HST := hide hst
      have HC := hide (fun W => ones_any ws[k] hx W)
      have HSU := hide (Sp.aheadN_succ ws k hlt')
      have HSE := hide (ahTo_set ws k hlt')
      have hsm := aheadN_small ws k (by omega) (by rw [← unhide HL]; exact hn)
      have hpl := Sp.pop_le 64 ws[k]
      have HBE := hide hbel
      rw [Sp.pop_bits] at HC hpl
      generalize hX : ws[k] = x at *
      clear hX hst hown hlen hbel hx
      generalize (Sp.bits64 x).count true = pc at *
      generalize hA : Sp.aheadN ws k = ak at *
      clear hA
      go_wp2_with (go_at_call 105; refine at_same (unhide HC _) ?_)
      go_roundw
      case rel => exact ⟨k + 1, by omega, by go_num, by rw [unhide HSU]; go_num, by rw [unhide HSE, NI_set]; exact (unhide HST).1, (unhide HBE).setCell (by simp) _⟩
      case measure => simp [intOf]; omega
    · have he : k = n := by omega
      subst he
      have HN : Hid (ahTo ws k = Sp.aheads ws) := by rw [Hid, unhide HL]; exact ahTo_end ws
      have HO := hide (And.intro hown hbel)
      clear hown hbel
      go_wp2
      go_ret
      exact ⟨_, rfl, by rw [← unhide HN]; exact (unhide HO).1, (unhide HO).2⟩
end Pr
end Go.Proofs.YtolkjadklbchfaaDoor
/- Walks of the program: bitrow.Of. -/
open Go Go.RowKit
namespace Go.Proofs.YtolkjadklbchfaaDoor
namespace Pr
open Mem Rf

/-- A row of bits in memory: its words and its counts, in blocks from lo on. -/
structure RowIs (lo : Nat) (w : World) (yw ya : Value) (l : List Bool) : Prop where
  ow : w.ownsRow lo 27 1 yw (l.length / 64 + 1) (U64 (Sp.words l))
  oa : w.ownsRow lo 3 1 ya (l.length / 64 + 1) (I64 (NI (Sp.aheads (Sp.words l))))
theorem RowIs.later {lo : Nat} {w w' : World} {yw ya : Value} {l : List Bool} (h : RowIs lo w yw ya l) (hb : Below w.heap.size w w') : RowIs lo w' yw ya l := ⟨own_later h.ow hb, own_later h.oa hb⟩
theorem RowIs.base {lo lo' : Nat} {w : World} {yw ya : Value} {l : List Bool} (h : RowIs lo w yw ya l) (hb : lo' ≤ lo) : RowIs lo' w yw ya l := ⟨own_base h.ow hb, own_base h.oa hb⟩
theorem RowIs.alloc {lo : Nat} {w : World} {yw ya : Value} {l : List Bool} (h : RowIs lo w yw ya l) (o : Obj) : RowIs lo (w.alloc o) yw ya l := ⟨h.ow.alloc o, h.oa.alloc o⟩
theorem RowIs.form {lo : Nat} {w : World} {yw ya : Value} {l : List Bool} (h : RowIs lo w yw ya l) : ∃ pw cw pa ca, yw = .slice pw (l.length / 64 + 1) cw ∧ ya = .slice pa (l.length / 64 + 1) ca := by
  obtain ⟨pw, cw, h1, _⟩ := own_slice h.ow
  obtain ⟨pa, ca, h2, _⟩ := own_slice h.oa
  exact ⟨pw, cw, pa, ca, h1, h2⟩

/-- The cells of a block, written one by one. -/
def setAll (w : World) (H : Nat) : Nat → List Value → World
  | _, [] => w
  | k, v :: vs => setAll (w.setCell ⟨H, k, none⟩ v) H (k + 1) vs
theorem setAll_below {w0 w : World} {B H : Nat} (hB : B ≤ H) (k : Nat) (vs : List Value) (h : Below B w0 w) : Below B w0 (setAll w H k vs) := by
  induction vs generalizing w k with
  | nil => exact h
  | cons v vs ih => exact ih (k + 1) (h.setCell (by simpa using hB) v)
theorem own_setCell {w : World} {base : Nat} {e : TypeId} {size : Nat} {v : Value} {n : Nat} {xs : List Value} (h : w.ownsRow base e size v n xs) {a : Addr} (ha : ∀ g, v.ownBlock = some g → g ≠ a.block) (u : Value) : (w.setCell a u).ownsRow base e size v n xs := by
  refine ⟨h.1, ?_⟩
  rcases h.2 with hn | ⟨g, cap, cur, rfl, hbg, hgg, rest⟩
  · exact .inl hn
  · exact .inr ⟨g, cap, cur, rfl, hbg, by rw [Below.heap_setCell _ _ _ _ (ha g rfl)]; exact hgg, rest⟩
theorem setAll_own {w : World} {base : Nat} {e : TypeId} {size : Nat} {v : Value} {n : Nat} {xs : List Value} {H : Nat} (ha : ∀ g, v.ownBlock = some g → g ≠ H) (k : Nat) (vs : List Value) (h : w.ownsRow base e size v n xs) : (setAll w H k vs).ownsRow base e size v n xs := by
  induction vs generalizing w k with
  | nil => exact h
  | cons u vs ih => exact ih (k + 1) (own_setCell h (by simpa using ha) u)
theorem setAll_row {w : World} {lo : Nat} {yw ya : Value} {l : List Bool} {H : Nat} (h : RowIs lo w yw ya l) (hH : H < lo) (k : Nat) (vs : List Value) : RowIs lo (setAll w H k vs) yw ya l :=
  ⟨setAll_own (fun g hg => by have := (h.ow.lt g hg).1; omega) k vs h.ow, setAll_own (fun g hg => by have := (h.oa.lt g hg).1; omega) k vs h.oa⟩
theorem setAll_early {w : World} {H : Nat} (k j : Nat) (vs : List Value) (hj : j < k) : (setAll w H k vs).cell? ⟨H, j, none⟩ = w.cell? ⟨H, j, none⟩ := by
  induction vs generalizing w k with
  | nil => rfl
  | cons v vs ih =>
    show (setAll (w.setCell ⟨H, k, none⟩ v) H (k + 1) vs).cell? ⟨H, j, none⟩ = _
    rw [ih (k + 1) (by omega), World.cell?_setCell_other _ _ _ _ (by simp)]
theorem setAll_cell {w : World} {H : Nat} (k : Nat) (vs : List Value) (hc : ∀ i, i < vs.length → ∃ u, w.cell? ⟨H, k + i, none⟩ = some u) (i : Nat) (v : Value) (hv : vs[i]? = some v) : (setAll w H k vs).cell? ⟨H, k + i, none⟩ = some v := by
  induction vs generalizing w k i with
  | nil => simp at hv
  | cons x vs ih =>
    show (setAll (w.setCell ⟨H, k, none⟩ x) H (k + 1) vs).cell? ⟨H, k + i, none⟩ = some v
    cases i with
    | zero =>
      obtain ⟨u, hu⟩ := hc 0 (by simp)
      rw [setAll_early (k + 1) (k + 0) vs (by omega)]
      have hxv : x = v := by simpa using hv
      rw [← hxv]
      exact World.cell?_setCell_same _ _ _ hu
    | succ i =>
      have := ih (w := w.setCell ⟨H, k, none⟩ x) (k + 1) (fun j hj => ?_) i (by simpa using hv)
      · rw [show k + (i + 1) = k + 1 + i from by omega]
        exact this
      · obtain ⟨u, hu⟩ := hc (j + 1) (by simp; omega)
        refine ⟨u, ?_⟩
        rw [World.cell?_setCell_other _ _ _ _ (by simp), show k + 1 + j = k + (j + 1) from by omega]
        exact hu

/-- The block of a result of three cells. -/
def Res3 (H : Nat) (w : World) : Prop := w.heap[H]? = some (.cells #[.slice none 0 0, .slice none 0 0, .int .i64 0] 68 (0, 0))

theorem word_no {l : List Bool} {k : Nat} (h : l[k]?.getD false = false) : Sp.wordsTo l (k + 1) = Sp.wordsTo l k := by simp [Sp.wordsTo, h]
theorem word_yes {l : List Bool} {k : Nat} (h : l[k]?.getD false = true) : Sp.wordsTo l (k + 1) = (Sp.wordsTo l k).set (k / 64) (((Sp.wordsTo l k)[k / 64]?.getD 0) ||| 2 ^ (k % 64)) := by simp [Sp.wordsTo, h]
theorem U64_set (xs : List Nat) (j y : Nat) : U64 (xs.set j y) = (U64 xs).set j (.int .u64 (y : Int)) := by simp [U64, List.map_set]
theorem pow64 (k : Nat) : 2 ^ (k % 64) < 18446744073709551616 := Nat.lt_of_lt_of_le (Nat.pow_lt_pow_right (by omega) (Nat.mod_lt k (by omega) : k % 64 < 64)) (by decide)
theorem or_u64 (x k : Nat) (hx : x < 18446744073709551616) : bits BinOp.or IntKind.u64 (x : Int) (IntKind.u64.wrap (2 ^ (k % 64))) = ((x ||| 2 ^ (k % 64) : Nat) : Int) := by
  have hp := pow64 k
  have e : IntKind.u64.wrap ((2 : Int) ^ (k % 64)) = ((2 ^ (k % 64) : Nat) : Int) := by
    rw [IntKind.wrap_u64, ← Nat.mod_eq_of_lt hp]
    simp
  rw [e]
  exact u64_or_nat x (2 ^ (k % 64)) hx hp

/-- What Of holds on its way. -/
structure OfSt (w wr : World) (m : Nat) (l : List Bool) (k : Nat) : Prop where
  own : wr.ownsRow (w.heap.size + 1) 27 1 (.slice (some ⟨w.heap.size + 1, 0, none⟩) m m) m (U64 (Sp.wordsTo l k))
  bel : Below w.heap.size w wr
  res : Res3 w.heap.size wr

set_option maxHeartbeats 1000000 in
theorem rowOf_any (p : Option Addr) (B n c : Nat) (l : List Bool) (w : World) (hr : Rd B w (.slice p n c) (Bo l)) (hB : B ≤ w.heap.size) (hn : n ≤ 1000000) :
    Calls Tryd.prog 92 #[.slice p n c] w fun e w' => ∃ yw ya, e = .returned (.agg #[yw, ya, .int .i64 (l.length : Nat)]) ∧ RowIs w.heap.size w' yw ya l ∧ Below w.heap.size w w' := by
  obtain ⟨hl, hlc⟩ := hr.len
  rw [Bo_len] at hl
  subst hl
  obtain ⟨i0, hi, hz0, hz1, hz2⟩ := info_parts Ty.u64
  have Hb : Hid (i0.bytes = 8) := hz2
  clear hz2
  obtain ⟨m, hmm⟩ : ∃ m, m = l.length / 64 + 1 := ⟨_, rfl⟩
  have hm : m ≤ 1000000 := by omega
  have HM := hide hmm
  clear hmm
  have HR := hide hr
  clear hr
  go_enter Tryd.func92, Tryd.ntmps92
  go_wp2_with (at_make; (refine wpList_make_full _ rfl (.tmp 9) (.tmp 9) 22 rfl (w.heap.size + 1) 27 i0 (.int .u64 0) 1 Tryd.underlying22 hi hz0 hz1 .i64 .i64 _ _ m rfl rfl (by rw [unhide HM]; go_num) (by rw [unhide HM]; go_num) (by rw [Hb.out]; omega) (by unfold maxLen; omega) (by simp) ?_); intro w1 hown1 hg1)
  rw [made_u64s, show (w.alloc (Obj.cells #[Value.slice none 0 0, Value.slice none 0 0, Value.int IntKind.i64 0] 68)).heap.size = w.heap.size + 1 from by simp] at hown1
  have HS : Hid (OfSt w w1 m l 0) := by
    refine ⟨by rw [unhide HM] at hown1 ⊢; exact hown1, ((Below.refl _ _).alloc (Nat.le_refl _) _).grown hg1 (by simp) (by intro k hk; cases hk), ?_⟩
    exact (hg1.block w.heap.size (by simp) (by simp)).trans (heap_alloc_new _ _)
  clear hg1 hi hz0 hz1 hown1
  go_loopw [13] (fun i wr => ∃ k : Nat, k ≤ l.length ∧ i = .int .i64 k ∧ OfSt w wr m l k) (fun i _ => l.length - (intOf i).toNat)
  case atStart => exact ⟨0, Nat.zero_le _, rfl, unhide HS⟩
  case round =>
    obtain ⟨k, hk, rfl, hst⟩ := hrel
    clear HS
    by_cases hlt : k < l.length
    · obtain ⟨b, o, rfl, hb, hc⟩ := ((unhide HR).below (hst.bel.mono hB)).at k _ (Bo_at l k hlt)
      have hk8 : k / 64 < m := by rw [unhide HM]; omega
      have hpl : (Sp.wordsTo l k).length = m := by rw [Sp.wordsTo_len, unhide HM]
      have hc8 := (hst.own.cellAt (k / 64) (by omega)).trans (U64_at (Sp.wordsTo l k) (k / 64) (by omega))
      have hf8 := hst.own.frozenAt (k / 64)
      have hx : (Sp.wordsTo l k)[k / 64] < 18446744073709551616 := Sp.wordsTo_lt l k _ (List.getElem_mem _)
      have HST := hide hst
      clear hst
      cases hlk : l[k] with
      | false =>
        rw [hlk] at hc
        have HN := hide (word_no (l := l) (k := k) (by simp [hlt, hlk]))
        clear hlk hc8 hf8 hx
        go_wp2
        go_roundw
        case rel => exact ⟨k + 1, by omega, by go_num, by rw [unhide HN]; exact (unhide HST).own, (unhide HST).bel, (unhide HST).res⟩
        case measure => simp [intOf]; omega
      | true =>
        rw [hlk] at hc
        have HN := hide (word_yes (l := l) (k := k) (by simp [hlt, hlk]))
        have HG : Hid ((Sp.wordsTo l k)[k / 64]?.getD 0 = (Sp.wordsTo l k)[k / 64]) := by simp [Hid, hpl, hk8]
        clear hlk
        generalize hX : (Sp.wordsTo l k)[k / 64] = x at *
        clear hX hpl
        go_wp2_with fail
        go_region
        all_goals go_wp2
        go_roundw
        case rel =>
          have hs := (unhide HST).own.stored (k / 64) (.int .u64 (bits BinOp.or IntKind.u64 (x : Int) (IntKind.u64.wrap (2 ^ (k % 64)))))
          refine ⟨k + 1, by omega, by go_num, ?_, ((unhide HST).bel.setCell (by simp) _).drew, ?_⟩
          · rw [or_u64 x k hx, unhide HN, unhide HG, U64_set]
            rw [or_u64 x k hx] at hs
            exact hs.1.drew
          · exact (hs.2.block w.heap.size (by have := (unhide HST).bel.size; have := (Array.getElem?_eq_some_iff.1 (unhide HST).res).1; omega) (by simp)).trans (unhide HST).res
        case measure => simp [intOf]; omega
    · have he : k = l.length := by omega
      subst he
      have hown := hst.own
      rw [show Sp.wordsTo l l.length = Sp.words l from rfl] at hown
      have HC := hide (counted_any _ _ m m (Sp.words l) wr (Rd.owned hown) (Nat.le_refl _) (Sp.words_lt l) hm)
      have HST := hide hst
      have HO := hide hown
      clear hst hown
      go_wp2_with fail
      refine (unhide HC).mono ?_
      rintro e w2 ⟨v2, rfl, ho2, hb2⟩
      obtain ⟨p2, c2, rfl, _⟩ := own_slice ho2
      have hsz := (unhide HST).bel.size
      have hrl := (Array.getElem?_eq_some_iff.1 (unhide HST).res).1
      have hres : Res3 w.heap.size w2 := (hb2.block w.heap.size hrl).trans (unhide HST).res
      have HR2 := hide (own_later (unhide HO) hb2)
      have HA2 := hide ho2
      have HB2 := hide ((unhide HST).bel.trans (hb2.mono hsz))
      have c0 : w2.cell? ⟨w.heap.size, 0, none⟩ = some (.slice none 0 0) := by rw [cell_of_row _ _ _ _ _ (0, 0) hres]; rfl
      have c1 : w2.cell? ⟨w.heap.size, 1, none⟩ = some (.slice none 0 0) := by rw [cell_of_row _ _ _ _ _ (0, 0) hres]; rfl
      have c3 : w2.cell? ⟨w.heap.size, 2, none⟩ = some (.int .i64 0) := by rw [cell_of_row _ _ _ _ _ (0, 0) hres]; rfl
      have ff : ∀ j, w2.frozen? ⟨w.heap.size, j, none⟩ = false := fun j => frozen_of_row w2 _ j _ _ hres
      clear ho2 hb2 hres
      go_wp2
      have hex : ∀ i, i < ([.slice (some ⟨w.heap.size + 1, 0, none⟩) m m, .slice p2 m c2, .int .i64 (l.length : Nat)] : List Value).length → ∃ u, w2.cell? ⟨w.heap.size, 0 + i, none⟩ = some u := by
        intro i hi
        match i, hi with
        | 0, _ => exact ⟨_, c0⟩
        | 1, _ => exact ⟨_, c1⟩
        | 2, _ => exact ⟨_, c3⟩
      have g0 := setAll_cell 0 _ hex 0 _ rfl
      have g1 := setAll_cell 0 _ hex 1 _ rfl
      have g2 := setAll_cell 0 _ hex 2 _ rfl
      have HRW := hide (setAll_row (RowIs.mk (by rw [← unhide HM]; exact unhide HR2) (by rw [← unhide HM]; exact own_base (unhide HA2) (by have := Nat.succ_le_of_lt hrl; omega))) (show w.heap.size < w.heap.size + 1 by omega) 0 ([.slice (some ⟨w.heap.size + 1, 0, none⟩) m m, .slice p2 m c2, .int .i64 (l.length : Nat)] : List Value))
      have HBW := hide (setAll_below (Nat.le_refl w.heap.size) 0 ([.slice (some ⟨w.heap.size + 1, 0, none⟩) m m, .slice p2 m c2, .int .i64 (l.length : Nat)] : List Value) (unhide HB2))
      simp only [setAll, Nat.zero_add] at g0 g1 g2
      refine bodyPost_ret (v := .agg #[.slice (some ⟨w.heap.size + 1, 0, none⟩) m m, .slice p2 m c2, .int .i64 (l.length : Nat)]) (by simp [results, Tryd.results92, go_sem, g0, g1, g2]) rfl ?_
      exact ⟨_, _, rfl, (unhide HRW).base (by omega), unhide HBW⟩
theorem rowOf_v {y : Value} {B : Nat} {l : List Bool} {w : World} (hr : Rd B w y (Bo l)) (hB : B ≤ w.heap.size) (hn : l.length ≤ 1000000) :
    Calls Tryd.prog 92 #[y] w fun e w' => ∃ yw ya, e = .returned (.agg #[yw, ya, .int .i64 (l.length : Nat)]) ∧ RowIs w.heap.size w' yw ya l ∧ Below w.heap.size w w' := by
  obtain ⟨p, c, rfl, _⟩ := hr.form
  exact rowOf_any p B _ c l w hr hB (by rw [Bo_len]; exact hn)

/-- A result's new block. -/
structure ResB (H : Nat) (w W1 : World) (cs : Array Value) (t : TypeId) : Prop where
  blk : W1.heap[H]? = some (.cells cs t (0, 0))
  bel : Below H w W1
  size : W1.heap.size = H + 1
theorem ResB.start (w : World) (cs : Array Value) (t : TypeId) : ResB w.heap.size w (w.alloc (.cells cs t)) cs t := ⟨heap_alloc_new _ _, (Below.refl _ _).alloc (Nat.le_refl _) _, by simp⟩
theorem ResB.end {w W1 w3 w4 : World} {yw ya : Value} {l : List Bool} {cs : Array Value} {t : TypeId} (h : ResB w.heap.size w W1 cs t) (hb3 : Below (w.heap.size + 1) W1 w3) (hr : RowIs w3.heap.size w4 yw ya l) (hb4 : Below w3.heap.size w3 w4) (vs : List Value) (hlen : vs.length ≤ cs.size) :
    (∀ j u, cs[j]? = some u → w4.cell? ⟨w.heap.size, j, none⟩ = some u) ∧ (∀ j, w4.frozen? ⟨w.heap.size, j, none⟩ = false) ∧ (∀ i v, vs[i]? = some v → (setAll w4 w.heap.size 0 vs).cell? ⟨w.heap.size, i, none⟩ = some v) ∧
      RowIs w.heap.size (setAll w4 w.heap.size 0 vs) yw ya l ∧ Below w.heap.size w (setAll w4 w.heap.size 0 vs) := by
  have hs1 := h.size
  have hs3 := hb3.size
  have hb : Below (w.heap.size + 1) W1 w4 := hb3.trans (hb4.mono (by omega))
  have hblk : w4.heap[w.heap.size]? = some (.cells cs t (0, 0)) := (hb.block w.heap.size (by omega)).trans h.blk
  have hc : ∀ j u, cs[j]? = some u → w4.cell? ⟨w.heap.size, j, none⟩ = some u := by
    intro j u hu
    rw [cell_of_row _ _ _ _ _ (0, 0) hblk]
    exact hu
  refine ⟨hc, fun j => frozen_of_row w4 _ j _ _ hblk, ?_, ?_, ?_⟩
  · intro i v hv
    have := setAll_cell (w := w4) (H := w.heap.size) 0 vs (fun j hj => ⟨cs[j]'(by omega), by rw [Nat.zero_add]; exact hc j _ (Array.getElem?_eq_getElem (by omega))⟩) i v hv
    rw [Nat.zero_add] at this
    exact this
  · exact (setAll_row hr (by omega) 0 vs).base (by omega)
  · exact setAll_below (Nat.le_refl _) 0 vs (h.bel.trans (hb.mono (by omega)))
end Pr
end Go.Proofs.YtolkjadklbchfaaDoor
/- Walks of the program: bitrow.Bytes; Bytes of the layers, the brackets and the marks. -/
open Go Go.RowKit
namespace Go.Proofs.YtolkjadklbchfaaDoor
namespace Sp
theorem packTo_bit (l : List Bool) (k i j : Nat) (hk : k ≤ l.length) (hj : j < 8) : ((packTo l k)[i]?.getD 0).testBit j = (decide (8 * i + j < k) && l[8 * i + j]?.getD false) := by
  induction k with
  | zero =>
    simp [packTo, List.getElem?_replicate]
    split <;> simp
  | succ k ih =>
    have ih := ih (by omega)
    have hlen := packTo_len l k
    unfold packTo
    by_cases hb : l[k]?.getD false = true
    · rw [if_pos hb]
      by_cases hi : k / 8 = i
      · rw [List.getElem?_set, if_pos hi, if_pos (by omega)]
        simp only [Option.getD_some]
        rw [Nat.testBit_or, hi, ih, Nat.testBit_two_pow]
        by_cases he : 8 * i + j = k
        · rw [he, hb]
          simp [show k % 8 = j from by omega]
        · rw [show decide (k % 8 = j) = false from by simp; omega, show decide (8 * i + j < k + 1) = decide (8 * i + j < k) from by rw [decide_eq_decide]; omega]
          simp
      · rw [List.getElem?_set, if_neg hi, ih, show decide (8 * i + j < k + 1) = decide (8 * i + j < k) from by rw [decide_eq_decide]; omega]
    · rw [if_neg hb, ih]
      by_cases he : 8 * i + j = k
      · rw [he]
        simp at hb
        simp [hb]
      · rw [show decide (8 * i + j < k + 1) = decide (8 * i + j < k) from by rw [decide_eq_decide]; omega]
theorem pack_bit (l : List Bool) (i j : Nat) (hj : j < 8) : ((pack l)[i]?.getD 0).testBit j = l[8 * i + j]?.getD false := by
  unfold pack
  rw [packTo_bit l _ i j (Nat.le_refl _) hj]
  by_cases h : 8 * i + j < l.length
  · simp [h]
  · simp [h]
/-- A byte of a word. -/
theorem byte_of (l : List Bool) (k : Nat) : ((words l)[k / 8]?.getD 0) / 2 ^ (k % 8 * 8) % 256 = (pack l)[k]?.getD 0 := by
  apply Nat.eq_of_testBit_eq
  intro j
  rw [show (256 : Nat) = 2 ^ 8 from rfl, Nat.testBit_mod_two_pow, Nat.testBit_div_two_pow]
  by_cases hj : j < 8
  · rw [words_bit l (k / 8) (j + k % 8 * 8) (by omega), pack_bit l k j hj, show 64 * (k / 8) + (j + k % 8 * 8) = 8 * k + j from by omega]
    simp [hj]
  · have h1 : (pack l)[k]?.getD 0 < 2 ^ 8 := getD_lt (pack_lt l) (by omega) k
    rw [Nat.testBit_lt_two_pow (Nat.lt_of_lt_of_le h1 (Nat.pow_le_pow_right (by omega) (by omega)))]
    simp [hj]
end Sp
namespace Pr
open Mem Rf
/-- The bytes behind k of them. -/
def byTo (l : List Bool) (k : Nat) : List Nat := (List.range ((l.length + 7) / 8)).map (fun i => if i < k then (Sp.pack l)[i]?.getD 0 else 0)
theorem byTo_zero (l : List Bool) : byTo l 0 = List.replicate ((l.length + 7) / 8) 0 := by
  apply List.ext_getElem?
  intro j
  by_cases hj : j < (l.length + 7) / 8
  · simp [byTo, hj]
  · simp [byTo, hj]
theorem byTo_len (l : List Bool) (k : Nat) : (byTo l k).length = (l.length + 7) / 8 := by simp [byTo]
theorem byTo_set (l : List Bool) (k : Nat) (hk : k < (l.length + 7) / 8) : byTo l (k + 1) = (byTo l k).set k ((Sp.pack l)[k]?.getD 0) := by
  apply List.ext_getElem?
  intro j
  rw [List.getElem?_set]
  by_cases hjk : k = j
  · subst hjk
    simp [byTo, hk]
  · rw [if_neg hjk]
    by_cases hj : j < (l.length + 7) / 8
    · simp [byTo, hj]
      by_cases h1 : j < k
      · simp [h1, show j < k + 1 from by omega]
      · simp [h1, show ¬ j < k + 1 from by omega]
    · simp [byTo, hj]
theorem byTo_end (l : List Bool) : byTo l ((l.length + 7) / 8) = Sp.pack l := by
  have hl := Sp.pack_len l
  apply List.ext_getElem?
  intro j
  by_cases hj : j < (l.length + 7) / 8
  · simp [byTo, hj, show j < (Sp.pack l).length from by omega]
  · simp [byTo, hj, hl]
theorem shr8 (x y k : Nat) (h : x / 2 ^ (k % 8 * 8) % 256 = y) : IntKind.u8.wrap ((x : Int) / 2 ^ (k % 8 * 8)) = (y : Int) := by
  rw [IntKind.wrap_u8, ← h]
  simp

theorem rsize_any (n : Nat) (hn : n ≤ 1000000) (w : World) : Calls Tryd.prog 103 #[.int .i64 (n : Nat)] w fun e w' => e = .returned (.int .i64 ((n + 7) / 8 : Nat)) ∧ w' = w := by
  go_enter Tryd.func103, Tryd.ntmps103
  go_wp2
  go_ret
  exact ⟨ret_int (by go_num), rfl⟩

/-- What Bytes holds on its way. -/
structure BySt (w wr : World) (yw ya : Value) (m : Nat) (l : List Bool) (k : Nat) : Prop where
  own : wr.ownsRow (w.heap.size + 1) 5 1 (.slice (some ⟨w.heap.size + 1, 0, none⟩) m m) m (By (byTo l k))
  bel : Below w.heap.size w wr
  box : wr.heap[w.heap.size]? = some (.cells #[yw, ya, .int .i64 (l.length : Nat)] 68 (0, 0))

set_option maxHeartbeats 1000000 in
theorem bytes_any (lo : Nat) (yw ya : Value) (l : List Bool) (w : World) (h : RowIs lo w yw ya l) (hn : l.length ≤ 1000000) :
    Calls Tryd.prog 77 #[.agg #[yw, ya, .int .i64 (l.length : Nat)]] w fun e w' => ∃ v, e = .returned v ∧ w'.ownsRow w.heap.size 5 1 v (Sp.pack l).length (By (Sp.pack l)) ∧ Below w.heap.size w w' := by
  obtain ⟨pw, cw, pa, ca, rfl, rfl⟩ := h.form
  have HR := hide (Rd.owned h.ow)
  have hlb := h.ow.lt
  clear h
  obtain ⟨i0, hi, hz0, hz1, hz2⟩ := info_parts Ty.u8
  have Hb : Hid (i0.bytes = 1) := hz2
  clear hz2
  obtain ⟨m, hmm⟩ : ∃ m, m = (l.length + 7) / 8 := ⟨_, rfl⟩
  have hm : m ≤ 1000000 := by omega
  have HM := hide hmm
  have HSZ := hide (fun W => rsize_any l.length hn W)
  rw [← hmm] at HSZ
  clear hmm hlb
  go_enter Tryd.func77, Tryd.ntmps77
  go_wp2_with (first
    | (go_at_call 103; refine at_same (unhide HSZ _) ?_)
    | (at_make; (refine wpList_make_full _ rfl (.tmp 7) (.tmp 7) 45 rfl (w.heap.size + 1) 5 i0 (.int .u8 0) 1 Tryd.underlying45 hi hz0 hz1 .i64 .i64 _ _ m rfl rfl rfl rfl (by rw [Hb.out]; omega) (by unfold maxLen; omega) (by simp) ?_); intro w1 hown1 hg1))
  rw [made_u8s, show (w.alloc (Obj.cells #[Value.slice pw (l.length / 64 + 1) cw, Value.slice pa (l.length / 64 + 1) ca, Value.int IntKind.i64 (l.length : Int)] 68)).heap.size = w.heap.size + 1 from by simp] at hown1
  have HS : Hid (BySt w w1 (.slice pw (l.length / 64 + 1) cw) (.slice pa (l.length / 64 + 1) ca) m l 0) := by
    refine ⟨by rw [byTo_zero, ← unhide HM]; exact hown1, ((Below.refl _ _).alloc (Nat.le_refl _) _).grown hg1 (by simp) (by intro k hk; cases hk), ?_⟩
    exact (hg1.block w.heap.size (by simp) (by simp)).trans (heap_alloc_new _ _)
  clear hg1 hi hz0 hz1 hown1
  go_loopw [11] (fun i wr => ∃ k : Nat, k ≤ m ∧ i = .int .i64 k ∧ BySt w wr (.slice pw (l.length / 64 + 1) cw) (.slice pa (l.length / 64 + 1) ca) m l k) (fun i _ => m - (intOf i).toNat)
  case atStart => exact ⟨0, Nat.zero_le _, rfl, unhide HS⟩
  case round =>
    obtain ⟨k, hk, rfl, hst⟩ := hrel
    clear HS
    by_cases hlt : k < m
    · have hk8 : k / 8 < (Sp.words l).length := by have := unhide HM; rw [Sp.words_len]; omega
      obtain ⟨b, o, rfl, hb, hc⟩ := ((unhide HR).below hst.bel).at (k / 8) _ (U64_at (Sp.words l) (k / 8) hk8)
      have hk9 : k / 8 < l.length / 64 + 1 := by rw [← Sp.words_len]; exact hk8
      have hbl : (byTo l k).length = m := by rw [byTo_len, unhide HM]
      obtain ⟨cu, hck⟩ : ∃ u : Nat, wr.cell? ⟨w.heap.size + 1, k, none⟩ = some (.int .u8 (u : Int)) := ⟨_, (hst.own.cellAt k (by omega)).trans (By_at (byTo l k) k (by omega))⟩
      have hfk := hst.own.frozenAt k
      have hx : (Sp.words l)[k / 8] < 18446744073709551616 := Sp.words_lt l _ (List.getElem_mem _)
      have hB3 : wr.cell? ⟨w.heap.size, 0, none⟩ = some (.slice (some ⟨b, o, none⟩) (l.length / 64 + 1) cw) := by rw [cell_of_row _ _ _ _ _ (0, 0) hst.box]; rfl
      have hby := Sp.byte_of l k
      rw [show (Sp.words l)[k / 8]?.getD 0 = (Sp.words l)[k / 8] from by simp [hk8]] at hby
      have e1 := shr8 _ _ _ hby
      have HSE := hide (byTo_set l k (by rw [← unhide HM]; exact hlt))
      have HST := hide hst
      clear hst hbl hby
      generalize hX : (Sp.words l)[k / 8] = x at *
      generalize hY : (Sp.pack l)[k]?.getD 0 = y at *
      clear hX hY
      go_wp2
      go_roundw
      case rel =>
        have hs := (unhide HST).own.stored k (.int .u8 (y : Int))
        refine ⟨k + 1, by omega, by go_num, ?_, (unhide HST).bel.setCell (by simp) _, ?_⟩
        · rw [unhide HSE, By_set]
          first | exact hs.1 | (rw [e1]; exact hs.1)
        · exact (Below.heap_setCell _ _ _ _ (by simp)).trans (unhide HST).box
      case measure => simp [intOf]; omega
    · have he : k = m := by omega
      subst he
      have HO := hide (And.intro hst.own hst.bel)
      clear hst
      go_wp2
      go_ret
      refine ⟨_, rfl, ?_, (unhide HO).2⟩
      have := (unhide HO).1
      rw [unhide HM, byTo_end] at this
      rw [Sp.pack_len, unhide HM]
      exact own_base this (by omega)
end Pr
end Go.Proofs.YtolkjadklbchfaaDoor
