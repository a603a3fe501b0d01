/- Walks of the program: slices.Clone, bitrow.Of, Bytes. -/
import Derived.Test.YtmefkcbchpjeoaaDoorRefB
import Derived.Test.YtmefkcbchpjeoaaDoorRefC
import Derived.Laws.ResultCell
open Go Go.RowKit
namespace Go.Proofs.YtmefkcbchpjeoaaDoor
namespace Pr
open Mem

theorem eql_nil {P : Program} (w : World) {t e : TypeId} (a : Option Addr) (n c : Nat) (ht : P.underlying t = some (.slice e)) : (binOp .eql t (.slice a n c) (.slice none 0 0)).run P w = .ok (.bool a.isNone) w := by
  have h : ∀ d : Nat, (Op.equalIn (d + 1) t (.slice a n c) (.slice none 0 0)).run P w = .ok a.isNone w := fun d => by
    cases a <;> simp [Op.equalIn, run_underlying ht]
  simp only [binOp]
  simp [Op.equal, Op.maxDepth, h 9999]

theorem own_empty (w : World) (e : TypeId) : (w.alloc (.cells #[] e)).ownsRow w.heap.size e 1 (.slice (some ⟨w.heap.size, 0, none⟩) 0 0) 0 [] := World.ownsRow_made w #[] 0 (Nat.le_refl _) (by unfold maxLen; omega) rfl

set_option maxHeartbeats 400000 in
theorem clone8_any (p : Option Addr) (B n c : Nat) (xs : List Nat) (w : World) (hr : Rd B w (.slice p n c) (By xs)) (hB : B ≤ w.heap.size) (hn : n ≤ 1000000000000) :
    Calls Tryd.prog 69 #[.slice p n c] w fun e w' => ∃ v, e = .returned v ∧ w'.ownsRow w.heap.size 5 1 v xs.length (By xs) ∧ Below w.heap.size w w' := by
  obtain ⟨hl, hlc⟩ := hr.len
  rw [By_len] at hl
  cases p with
  | none =>
    obtain ⟨rfl, rfl, hx⟩ := hr.isNil
    have hx' : xs = [] := by
      cases xs with
      | nil => rfl
      | cons x l => cases hx
    subst hx'
    clear hl hr hx
    have hq : ∀ (W : World) (a : Option Addr) (n c : Nat), (binOp .eql 49 (.slice a n c) (.slice none 0 0)).run Tryd.prog W = .ok (.bool a.isNone) W := fun W a n c => eql_nil W a n c Tryd.underlying49
    go_enter Tryd.func69, Tryd.ntmps69
    go_wp2
    go_ret
    exact ⟨_, rfl, World.ownsRow_nil _ _ _ _, Below.refl _ _⟩
  | some a =>
    have HR := hide hr
    have HL := hide hl
    clear hl hr
    have hq : ∀ (W : World) (a : Option Addr) (n c : Nat), (binOp .eql 49 (.slice a n c) (.slice none 0 0)).run Tryd.prog W = .ok (.bool a.isNone) W := fun W a n c => eql_nil W a n c Tryd.underlying49
    go_enter Tryd.func69, Tryd.ntmps69
    go_wp2_with (at_builtin; refine wpList_app _ rfl (.tmp 5) (.tmp 6) 49 rfl w.heap.size 5 (.int .u8 0) 1 Tryd.underlying49 Ty.u8 rfl (.slice (some ⟨w.heap.size, 0, none⟩) 0 0) _ _ rfl (own_empty w _) _ _ rfl ⟨_, (unhide HR).alloc hB _⟩ (one_By _) (by rw [By_len, ← unhide HL]; unfold maxLen; omega) (by rw [By_len, ← unhide HL]; omega) (by simp) ?_; intro v1 w1 hown1 hg1 hb1)
    go_ret
    refine ⟨v1, rfl, ?_, ?_⟩
    · rw [By_len] at hown1
      simpa using hown1
    · refine ((Below.refl _ _).alloc (Nat.le_refl _) _).grown hg1 (by simp) ?_
      intro k hk
      simp [Value.ownBlock] at hk
      omega

set_option maxHeartbeats 400000 in
theorem clone64_any (p : Option Addr) (B n c : Nat) (xs : List Nat) (w : World) (hr : Rd B w (.slice p n c) (U64 xs)) (hB : B ≤ w.heap.size) (hn : n ≤ 1000000000000) :
    Calls Tryd.prog 54 #[.slice p n c] w fun e w' => ∃ v, e = .returned v ∧ w'.ownsRow w.heap.size 34 1 v xs.length (U64 xs) ∧ Below w.heap.size w w' := by
  obtain ⟨hl, hlc⟩ := hr.len
  rw [U64_len] at hl
  cases p with
  | none =>
    obtain ⟨rfl, rfl, hx⟩ := hr.isNil
    have hx' : xs = [] := by
      cases xs with
      | nil => rfl
      | cons x l => cases hx
    subst hx'
    clear hl hr hx
    have hq : ∀ (W : World) (a : Option Addr) (n c : Nat), (binOp .eql 35 (.slice a n c) (.slice none 0 0)).run Tryd.prog W = .ok (.bool a.isNone) W := fun W a n c => eql_nil W a n c Tryd.underlying35
    go_enter Tryd.func54, Tryd.ntmps54
    go_wp2
    go_ret
    exact ⟨_, rfl, World.ownsRow_nil _ _ _ _, Below.refl _ _⟩
  | some a =>
    have HR := hide hr
    have HL := hide hl
    clear hl hr
    have hq : ∀ (W : World) (a : Option Addr) (n c : Nat), (binOp .eql 35 (.slice a n c) (.slice none 0 0)).run Tryd.prog W = .ok (.bool a.isNone) W := fun W a n c => eql_nil W a n c Tryd.underlying35
    go_enter Tryd.func54, Tryd.ntmps54
    go_wp2_with (at_builtin; refine wpList_app _ rfl (.tmp 5) (.tmp 6) 35 rfl w.heap.size 34 (.int .u64 0) 8 Tryd.underlying35 Ty.u64 rfl (.slice (some ⟨w.heap.size, 0, none⟩) 0 0) _ _ rfl (own_empty w _) _ _ rfl ⟨_, (unhide HR).alloc hB _⟩ (one_U64 _) (by rw [U64_len, ← unhide HL]; unfold maxLen; omega) (by rw [U64_len, ← unhide HL]; omega) (by simp) ?_; intro v1 w1 hown1 hg1 hb1)
    go_ret
    refine ⟨v1, rfl, ?_, ?_⟩
    · rw [U64_len] at hown1
      simpa using hown1
    · refine ((Below.refl _ _).alloc (Nat.le_refl _) _).grown hg1 (by simp) ?_
      intro k hk
      simp [Value.ownBlock] at hk
      omega

set_option maxHeartbeats 400000 in
theorem bytes_any (p : Option Addr) (B n c : Nat) (xs : List Nat) (w : World) (hr : Rd B w (.slice p n c) (By xs)) (hB : B ≤ w.heap.size) (hn : n ≤ 1000000000000) :
    Calls Tryd.prog 52 #[.agg #[.slice p n c]] w fun e w' => ∃ v, e = .returned v ∧ w'.ownsRow w.heap.size 5 1 v xs.length (By xs) ∧ Below w.heap.size w w' := by
  have HR := hide hr
  clear hr
  go_enter Tryd.func52, Tryd.ntmps52
  go_wp2_with (go_at_call 69; refine (clone8_any p B n c xs _ ((unhide HR).alloc hB _) (by simp; omega) hn).mono ?_; rintro e w1 ⟨v1, rfl, hown1, hb1⟩)
  go_ret
  exact ⟨v1, rfl, own_base hown1 (by simp), ((Below.refl _ _).alloc (Nat.le_refl _) _).trans (hb1.mono (by simp))⟩

set_option maxHeartbeats 400000 in
theorem rowOf_any (p : Option Addr) (B n c : Nat) (l : List Bool) (w : World) (hr : Rd B w (.slice p n c) (Bo l)) (hB : B ≤ w.heap.size) (hn : n ≤ 1000000000000) :
    Calls Tryd.prog 59 #[.slice p n c] w fun e w' => ∃ v, e = .returned (.agg #[v]) ∧ w'.ownsRow w.heap.size 5 1 v (Sp.pack l).length (By (Sp.pack l)) ∧ Below w.heap.size w w' := by
  obtain ⟨hl, hlc⟩ := hr.len
  rw [Bo_len] at hl
  subst hl
  obtain ⟨i0, hi, hz0, hz1, hz2⟩ := info_parts Ty.u8
  have Hb : Hid (i0.bytes = 1) := hz2
  clear hz2
  obtain ⟨m, hmm⟩ : ∃ m, m = (l.length + 7) / 8 := ⟨_, rfl⟩
  have hm : m ≤ 1000000000000 := by omega
  have HM := hide hmm
  have HM2 : Hid ((madeCells (Value.int .u8 0).cells (m * 1)).toList = By (Sp.packTo l 0)) := by rw [hmm]; exact Rf.made_zero l
  clear hmm
  go_enter Tryd.func59, Tryd.ntmps59
  go_wp2_with (at_make; (refine wpList_make_full _ rfl (.tmp 9) (.tmp 9) 49 rfl (w.heap.size + 1) 5 i0 (.int .u8 0) 1 Tryd.underlying49 hi hz0 hz1 .i64 .i64 _ _ m rfl rfl (by rw [unhide HM]; go_num) (by rw [unhide HM]; go_num) (by rw [Hb.out]; omega) (by unfold maxLen; omega) (by simp) ?_); intro w1 hown1 hg1)
  rw [HM2.out, show (w.alloc (Obj.cells #[Value.slice none 0 0] 63)).heap.size = w.heap.size + 1 from by simp] at hown1
  have hb1 : Below w.heap.size w w1 := ((Below.refl _ _).alloc (Nat.le_refl _) _).grown hg1 (by simp) (by intro k hk; cases hk)
  have hc1 : w1.cell? ⟨w.heap.size, 0, none⟩ = some (.slice none 0 0) ∧ w1.frozen? ⟨w.heap.size, 0, none⟩ = false := by
    refine ⟨hg1.cell (by simp) (by simp), ?_⟩
    rw [World.frozen?_of_block (hg1.block w.heap.size (by simp) (by simp))]
    simp
  have HS := hide (And.intro hown1 (And.intro hb1 hc1))
  clear hg1 hi hz0 hz1 hown1 hb1 hc1
  go_loopw [13] (fun i wr => ∃ k : Nat, k ≤ l.length ∧ i = .int .i64 k ∧ wr.ownsRow (w.heap.size + 1) 5 1 (.slice (some ⟨w.heap.size + 1, 0, none⟩) m m) m (By (Sp.packTo l k)) ∧ Below w.heap.size w wr ∧ wr.cell? ⟨w.heap.size, 0, none⟩ = some (.slice none 0 0) ∧ wr.frozen? ⟨w.heap.size, 0, none⟩ = false) (fun i _ => l.length - (intOf i).toNat)
  case atStart => exact ⟨0, Nat.zero_le _, rfl, (unhide HS).1, (unhide HS).2.1, (unhide HS).2.2⟩
  case round =>
    obtain ⟨k, hk, rfl, hown, hbel, hcz, hfz⟩ := hrel
    clear HS
    by_cases hlt : k < l.length
    · obtain ⟨b, o, rfl, hb, hc⟩ := (hr.below (hbel.mono hB)).at k _ (Bo_at l k hlt)
      have hk8 : k / 8 < m := by rw [unhide HM]; omega
      have hpl : (Sp.packTo l k).length = m := by rw [Sp.packTo_len, unhide HM]
      have hc8 := (hown.cellAt (k / 8) (by omega)).trans (By_at (Sp.packTo l k) (k / 8) (by omega))
      have hf8 := hown.frozenAt (k / 8)
      have hx : (Sp.packTo l k)[k / 8] < 256 := Sp.packTo_lt l k _ (List.getElem_mem _)
      have HZ := hide (And.intro hcz hfz)
      clear hcz hfz
      cases hlk : l[k] with
      | false =>
        rw [hlk] at hc
        have HN := hide (Rf.pack_no (l := l) (k := k) (by simp [hlt, hlk]))
        clear hpl hlk hc8 hf8 hx
        go_wp2
        go_roundw
        case rel => exact ⟨k + 1, by omega, by go_num, by rw [unhide HN]; exact hown, hbel, unhide HZ⟩
        case measure => simp [intOf]; omega
      | true =>
        rw [hlk] at hc
        have HN := hide (Rf.pack_yes (l := l) (k := k) (by simp [hlt, hlk]))
        have HG : Hid ((Sp.packTo l k)[k / 8]?.getD 0 = (Sp.packTo l k)[k / 8]) := by simp [Hid, hpl, hk8]
        have HP := hide hpl
        clear hlk
        generalize hX : (Sp.packTo l k)[k / 8] = x at *
        clear hX hpl
        go_wp2_with fail
        go_region
        all_goals go_wp2
        go_roundw
        case rel =>
          refine ⟨k + 1, by omega, by go_num, ?_, (hbel.setCell (by simp) _).drew, ?_, ?_⟩
          · rw [Rf.or_u8 x k hx, unhide HN, unhide HG, Rf.By_set]
            exact (hown.stored (k / 8) _).1.drew
          · have := (hown.stored (k / 8) (.int .u8 (bits BinOp.or IntKind.u8 (x : Int) (2 ^ (k % 8) % 256)))).2
            exact (this.cell (unhide HZ).1 (by simp))
          · have := (hown.stored (k / 8) (.int .u8 (bits BinOp.or IntKind.u8 (x : Int) (2 ^ (k % 8) % 256)))).2
            refine (World.frozen?_of_block (this.block w.heap.size ?_ (by simp))).trans (unhide HZ).2
            exact World.block_lt_of_cell? _ _ (unhide HZ).1
        case measure => simp [intOf]; omega
    · have he : k = l.length := by omega
      subst he
      go_wp2
      have hset : ∀ u, (wr.setCell ⟨w.heap.size, 0, none⟩ u).cell? ⟨w.heap.size, 0, none⟩ = some u := fun u => World.cell?_setCell_same _ _ _ hcz
      refine bodyPost_ret (v := .agg #[.slice (some ⟨w.heap.size + 1, 0, none⟩) m m]) (by simp [results, Tryd.results59, go_sem, hset]) rfl ?_
      refine ⟨_, rfl, ?_, hbel.setCell (Nat.le_refl _) _⟩
      rw [Sp.pack_len, ← unhide HM]
      exact own_base (ownsRow_setCell_below hown (by simp) _) (by omega)
theorem rowOf_v {y : Value} {B : Nat} {l : List Bool} {w : World} (hr : Rd B w y (Bo l)) (hB : B ≤ w.heap.size) (hn : l.length ≤ 1000000000000) :
    Calls Tryd.prog 59 #[y] w fun e w' => ∃ v, e = .returned (.agg #[v]) ∧ w'.ownsRow w.heap.size 5 1 v (Sp.pack l).length (By (Sp.pack l)) ∧ Below w.heap.size w w' := by
  obtain ⟨p, c, rfl, _⟩ := hr.form
  exact rowOf_any p B _ c l w hr hB (by rw [Bo_len]; exact hn)

/-- What a result's cell is, in its new block. -/
def ResCell (H : Nat) (w W1 : World) : Prop := W1.cell? ⟨H, 0, none⟩ = some (.slice none 0 0) ∧ W1.frozen? ⟨H, 0, none⟩ = false ∧ Below H w W1 ∧ W1.heap.size = H + 1

theorem ResCell.end {w W1 w3 w4 : World} {v : Value} {n : Nat} {xs : List Value} (h : ResCell w.heap.size w W1) (hb3 : Below (w.heap.size + 1) W1 w3) (ho : w4.ownsRow w3.heap.size 5 1 v n xs) (hb4 : Below w3.heap.size w3 w4) :
    w4.cell? ⟨w.heap.size, 0, none⟩ = some (.slice none 0 0) ∧ w4.frozen? ⟨w.heap.size, 0, none⟩ = false ∧ (∀ u, (w4.setCell ⟨w.heap.size, 0, none⟩ u).cell? ⟨w.heap.size, 0, none⟩ = some u) ∧ ∀ u, (w4.setCell ⟨w.heap.size, 0, none⟩ u).ownsRow w.heap.size 5 1 v n xs ∧ Below w.heap.size w (w4.setCell ⟨w.heap.size, 0, none⟩ u) := by
  obtain ⟨h1, h2, h3, h4⟩ := h
  have s3 := hb3.size
  have hb : Below (w.heap.size + 1) W1 w4 := hb3.trans (hb4.mono (by omega))
  have c4 : w4.cell? ⟨w.heap.size, 0, none⟩ = some (.slice none 0 0) := by rw [hb.cell (p := ⟨w.heap.size, 0, none⟩) (by simp)]; exact h1
  refine ⟨c4, by rw [hb.frozen (p := ⟨w.heap.size, 0, none⟩) (by simp)]; exact h2, fun u => World.cell?_setCell_same _ _ _ c4, fun u => ⟨?_, ?_⟩⟩
  · exact own_base (ownsRow_setCell_below ho (by simp; omega) _) (by omega)
  · exact (h3.trans (hb.mono (by omega))).setCell (Nat.le_refl _) _
end Pr
end Go.Proofs.YtmefkcbchpjeoaaDoor
