import Derived.Test.YtolkjadklbchfaaDoorP1
import Derived.Test.YtolkjadklbchfaaDoorG2
import Derived.Test.YtolkjadklbchfaaDoorG4
import Derived.Test.YtolkjadklbchfaaDoorG3
import Derived.Lib.BitFns
/- Walks of the program: mark.Fit, lowBits, mark.Row. -/
open Go Go.RowKit
namespace Go.Proofs.YtolkjadklbchfaaDoor
namespace Pr
open Mem

theorem lo_le {n : Nat} {ms : List Int} {k : Nat} (hk : k < ms.length) (h : ms[k] < n) : Rf.lo ms (k + 1) ≤ n := by
  have e : Rf.lo ms (k + 1) = ms[k] + 1 := by simp [Rf.lo, List.getD, hk]
  omega

set_option maxHeartbeats 400000 in
theorem fit_any (n : Nat) (p : Option Addr) (B m c : Nat) (ms : List Int) (w : World) (hr : Rd B w (.slice p m c) (I64 ms)) (hn : n ≤ 200) (hm : m ≤ 100000000000000) :
    Calls Tryd.prog 58 #[.slice p m c, .int .i64 n] w fun e w' => e = .returned (.bool (Sp.upTo n 0 ms)) ∧ w' = w := by
  obtain ⟨hl, hlc⟩ := hr.len
  rw [I64_len] at hl
  subst hl
  have HR := hide hr
  clear hr
  go_enter Tryd.func58, Tryd.ntmps58
  go_wp2
  go_loop [5, 10] (fun a i => ∃ k : Nat, k ≤ ms.length ∧ i = .int .i64 k ∧ a = .int .i64 (Rf.lo ms k) ∧ Sp.upTo n 0 ms = Sp.upTo n (Rf.lo ms k) (ms.drop k) ∧ 0 ≤ Rf.lo ms k ∧ Rf.lo ms k ≤ n) (fun _ i => ms.length - (intOf i).toNat)
  case atStart => exact ⟨0, Nat.zero_le _, rfl, by simp [Rf.lo], by simp [Rf.lo], by simp [Rf.lo], by simp [Rf.lo]⟩
  case round =>
    obtain ⟨k, hk, rfl, rfl, hup, hlo, hlo2⟩ := hrel
    have HU := hide hup
    clear hup
    by_cases hlt : k < ms.length
    · obtain ⟨b, o, rfl, hb, hc⟩ := (unhide HR).at k _ (I64_at ms k hlt)
      have HOK := hide (Rf.upTo_ok (n := n) hlt)
      have HBAD := hide (Rf.upTo_bad (n := n) hlt)
      have HLE := hide (lo_le (n := n) hlt)
      have hlk : Rf.lo ms (k + 1) = ms[k] + 1 := by simp [Rf.lo, List.getD, hlt]
      have HLK := hide hlk
      clear hlk
      generalize ms[k] = x at *
      generalize hL0 : Rf.lo ms k = l0 at *
      have HL0 := hide hL0
      clear hL0
      by_cases h1 : x < l0
      · have HX := hide ((unhide HU).trans ((unhide HBAD) (Or.inl h1)))
        go_wp2
        go_ret
        exact ⟨ret_bool (unhide HX).symm, rfl⟩
      · by_cases h2 : (n : Int) ≤ x
        · have HX := hide ((unhide HU).trans ((unhide HBAD) (Or.inr h2)))
          go_wp2
          go_ret
          exact ⟨ret_bool (unhide HX).symm, rfl⟩
        · have HX := hide ((unhide HU).trans ((unhide HOK) (by omega) (by omega)))
          go_wp2
          go_round
          case rel => exact ⟨k + 1, by omega, by go_num, by rw [unhide HLK], unhide HX, by rw [unhide HLK]; omega, (unhide HLE) (by omega)⟩
          case measure => simp [intOf]; omega
    · have he : k = ms.length := by omega
      have HX : Hid (Sp.upTo n 0 ms = true) := by
        rw [Hid, unhide HU, he]
        simp [Sp.upTo]
      clear he
      go_wp2
      go_ret
      exact ⟨ret_bool (unhide HX).symm, rfl⟩

set_option maxHeartbeats 400000 in
theorem low_any (n m : Nat) (w : World) (hn : n ≤ 1000000) (hm : m ≤ 1000000) :
    Calls Tryd.prog 86 #[.int .i64 m, .int .i64 n] w fun e w' => e = .returned (.int .i64 (Sp.pow n m : Nat)) ∧ w' = w := by
  by_cases h0 : m = 0
  · subst h0
    have hp : Sp.pow n 0 = 0 := Rf.pow_stop (by omega)
    have HP := hide hp
    clear hp
    go_enter Tryd.func86, Tryd.ntmps86
    go_wp2
    go_ret
    exact ⟨ret_int (by rw [unhide HP]; rfl), rfl⟩
  · have h0' : ((m : Int) == 0) = false := by simp; omega
    go_enter Tryd.func86, Tryd.ntmps86
    go_wp2
    go_loop [5] (fun a => ∃ q : Nat, q ≤ n ∧ a = .int .i64 q ∧ Sp.powTo n m (n - q) q = Sp.pow n m ∧ (q = 0 ∨ (0 < m ∧ 2 ^ q * m ≤ n))) (fun a => n - (intOf a).toNat)
    case atStart => exact ⟨0, Nat.zero_le _, rfl, rfl, Or.inl rfl⟩
    case round =>
      obtain ⟨q, hq, rfl, hpow, hinv⟩ := hrel
      have ht : 2 ^ q ≤ 1000000 := by
        rcases hinv with rfl | ⟨h0, h1⟩
        · decide
        · exact Nat.le_trans (Nat.le_mul_of_pos_right _ h0) (by omega)
      have hq20 : q < 20 := (Nat.pow_lt_pow_iff_right (a := 2) (by omega)).1 (Nat.lt_of_le_of_lt ht (by decide))
      have hdiv : (m ≤ n / 2 ^ (q + 1)) ↔ (0 < m ∧ 2 * 2 ^ q * m ≤ n) := by
        rw [Nat.le_div_iff_mul_le (Nat.pow_pos (by omega)), Nat.pow_succ, Nat.mul_comm (2 ^ q) 2, Nat.mul_comm m]
        omega
      have hcast : ((n : Int) / 2 ^ (q + 1)) = ((n / 2 ^ (q + 1) : Nat) : Int) := by simp
      have HP := hide hpow
      clear hpow
      by_cases hc : 0 < m ∧ 2 * 2 ^ q * m ≤ n
      · have hf := Rf.pow_fits hc
        have HQ : Hid (Sp.powTo n m (n - (q + 1)) (q + 1) = Sp.pow n m) := by
          rw [← unhide HP, ← Rf.pow_step hc, show n - (q + 1) + 1 = n - q from by omega]
          exact rfl
        have hle := hdiv.2 hc
        generalize hz : n / 2 ^ (q + 1) = z at *
        have hzi : (m : Int) ≤ (z : Int) := by omega
        have HC := hide (show 0 < m ∧ 2 ^ (q + 1) * m ≤ n from ⟨hc.1, by rw [Nat.pow_succ, Nat.mul_comm (2 ^ q) 2]; exact hc.2⟩)
        clear hdiv hc hz hinv
        go_wp2
        go_round
        case rel => exact ⟨q + 1, by omega, by go_num, unhide HQ, Or.inr (unhide HC)⟩
        case measure => simp [intOf]; omega
      · have HQ : Hid (Sp.pow n m = q) := by rw [← unhide HP]; exact Rf.pow_stop hc
        have hle : ¬ m ≤ n / 2 ^ (q + 1) := fun h => hc (hdiv.1 h)
        generalize hz : n / 2 ^ (q + 1) = z at *
        have hzi : ¬ (m : Int) ≤ (z : Int) := by omega
        clear hdiv hc hz hinv
        go_wp2
        go_ret
        exact ⟨ret_int (by rw [unhide HQ]), rfl⟩

theorem and1_i64 (x j : Nat) (hx : x < 1000) : (bits BinOp.and IntKind.i64 ((x : Int) / 2 ^ j) 1 == 1) = x.testBit j := by
  have e : ((x : Int) / 2 ^ j) = ((x / 2 ^ j : Nat) : Int) := by simp
  have hlt : x / 2 ^ j < 2 ^ 30 := Nat.lt_of_le_of_lt (Nat.div_le_self _ _) (by omega)
  have hb := (bits_nat .i64 30 (by decide) (fun n h0 h1 => by rw [IntKind.wrap_i64]; omega) (x / 2 ^ j) 1 hlt (by omega)).1
  rw [e, show (1 : Int) = ((1 : Nat) : Int) from rfl, hb, Nat.and_one_is_mod, Nat.testBit_eq_decide_div_mod_eq]
  rw [Bool.eq_iff_iff]
  simp only [beq_iff_eq, decide_eq_true_eq]
  omega

/-- The low bits, taken by shifts. -/
theorem low_snoc (p q : Nat) : Sp.low p (q + 1) = Sp.low p q ++ [p.testBit q] := by
  induction q generalizing p with
  | zero => simp [Sp.low, Nat.testBit_eq_decide_div_mod_eq]; rfl
  | succ q ih =>
    rw [Sp.low, ih (p / 2), Sp.low, List.cons_append, Nat.testBit_succ]
theorem low_take (p q : Nat) (k : Nat) (h : k ≤ q) : (Sp.low p q).take k = Sp.low p k := by
  induction q generalizing k with
  | zero =>
    have : k = 0 := by omega
    subst this
    rfl
  | succ q ih =>
    by_cases hk : k = q + 1
    · subst hk
      rw [List.take_of_length_le (by rw [Sp.low_len]; exact Nat.le_refl _)]
    · rw [low_snoc, List.take_append_of_le_length (by rw [Sp.low_len]; omega), ih k (by omega)]

theorem pow_small {n m : Nat} (hn : n ≤ 1000) : Sp.pow n m ≤ 10 := by
  have key : ∀ f q, 2 ^ q ≤ max 1 n → 2 ^ Sp.powTo n m f q ≤ max 1 n := by
    intro f
    induction f with
    | zero => intro q h; exact h
    | succ f ih =>
      intro q h
      unfold Sp.powTo
      split
      · rename_i hc
        refine ih (q + 1) ?_
        have h2 : 2 ^ (q + 1) ≤ 2 * 2 ^ q * m := by
          rw [Nat.pow_succ, Nat.mul_comm (2 ^ q) 2]
          exact Nat.le_mul_of_pos_right _ hc.1
        omega
      · exact h
  have h := key n 0 (by simp; omega)
  have h3 : 2 ^ Sp.pow n m < 2 ^ 11 := Nat.lt_of_le_of_lt h (by omega)
  have := (Nat.pow_lt_pow_iff_right (a := 2) (by omega)).1 h3
  omega

set_option maxHeartbeats 400000 in
theorem mhigh_any (n m : Nat) (w : World) (hn : n ≤ 1000) (hm : m ≤ 1000) : Calls Tryd.prog 93 #[.int .i64 (m : Nat), .int .i64 (n : Nat)] w fun e w' => e = .returned (.int .i64 ((m + n / 2 ^ Sp.pow n m + 1 : Nat) : Int)) ∧ w' = w := by
  have HP := hide (fun W => low_any n m W (by omega) (by omega))
  have hd1 : n / 2 ^ Sp.pow n m ≤ 1000 := Nat.le_trans (Nat.div_le_self _ _) hn
  have he : ((n : Int) / 2 ^ Sp.pow n m) = ((n / 2 ^ Sp.pow n m : Nat) : Int) := by simp
  have hq := pow_small (m := m) hn
  generalize n / 2 ^ Sp.pow n m = d at *
  generalize Sp.pow n m = q at *
  go_enter Tryd.func93, Tryd.ntmps93
  go_wp2_with (go_at_call 86; refine at_same (unhide HP _) ?_)
  go_ret
  exact ⟨ret_int (by first | go_num | (simp; done) | (rw [he]; go_num) | omega), rfl⟩

set_option maxHeartbeats 1000000 in
theorem mof_any (p : Option Addr) (B n m c : Nat) (ms : List Nat) (w : World) (hr : Rd B w (.slice p m c) (I64 (Rf.NI ms))) (hB : B ≤ w.heap.size) (hms : ∀ x ∈ ms, x < n) (hn : n ≤ 1000) (hm : m ≤ 1000) :
    Calls Tryd.prog 61 #[.slice p m c, .int .i64 n] w fun e w' => ∃ yw ya, e = .returned (.agg #[yw, ya, .int .i64 ((Sp.marks n ms).length : Nat), .int .i64 (m : Nat), .int .i64 (Sp.pow n m : Nat)]) ∧ RowIs w.heap.size w' yw ya (Sp.marks n ms) ∧ Below w.heap.size w w' := by
  obtain ⟨hl, hlc⟩ := hr.len
  rw [Rf.NI_len] at hl
  have HE : Hid (Sp.marks n ms = Sp.lows (Sp.pow n m) ms ++ Sp.high n (Sp.pow n m) ms) := by rw [hl]; rfl
  have hq := pow_small (m := m) hn
  have HL := hide hl
  have HP := hide (fun W => low_any n m W (by omega) (by omega))
  have HPH := hide (fun W => mhigh_any n m W hn hm)
  have HR := hide hr
  have HMS := hide hms
  have hd0 : (0 : Int) ≤ (n : Int) / 2 ^ Sp.pow n m := by
    rw [show ((n : Int) / 2 ^ Sp.pow n m) = ((n / 2 ^ Sp.pow n m : Nat) : Int) from by simp]
    exact Int.natCast_nonneg _
  have hd1 : (n : Int) / 2 ^ Sp.pow n m ≤ 1000 := by
    rw [show ((n : Int) / 2 ^ Sp.pow n m) = ((n / 2 ^ Sp.pow n m : Nat) : Int) from by simp]
    exact Int.ofNat_le.2 (Nat.le_trans (Nat.div_le_self _ _) hn)
  have hmq : m * Sp.pow n m ≤ 10000 := Nat.mul_le_mul hm hq
  clear hl hr hms
  generalize Sp.pow n m = q at *
  have hmqi : (m : Int) * (q : Int) ≤ 10000 := by rw [show (m : Int) * (q : Int) = ((m * q : Nat) : Int) from by simp]; exact Int.ofNat_le.2 hmq
  have hmq0 : (0 : Int) ≤ (m : Int) * (q : Int) := by rw [show (m : Int) * (q : Int) = ((m * q : Nat) : Int) from by simp]; exact Int.natCast_nonneg _
  obtain ⟨i0, hi0, hz0, hz1, hz2⟩ := info_parts Ty.bool
  have HI := hide (And.intro hi0 (And.intro hz0 (And.intro hz1 hz2)))
  clear hz2 hi0 hz0 hz1
  obtain ⟨h, hh⟩ : ∃ h, h = m + n / 2 ^ q + 1 := ⟨_, rfl⟩
  have hh2 : h ≤ 3000 := by have : n / 2 ^ q ≤ n := Nat.div_le_self _ _; omega
  have HH := hide hh
  rw [← hh] at HPH
  clear hh
  go_enter Tryd.func61, Tryd.ntmps61
  go_wp2_with (first
    | (go_at_call 86; refine at_same (unhide HP _) ?_)
    | (at_make; refine wpList_make_own _ rfl (.const (.int .i64 0)) (.tmp 21) 117 rfl (w.heap.size + 1) 4 i0 (.bool false) 1 Tryd.underlying117 (unhide HI).1 (unhide HI).2.1 (unhide HI).2.2.1 .i64 .i64 _ (m * q) rfl rfl (by simp) (by rw [(unhide HI).2.2.2]; omega) (by unfold maxLen; omega) (by simp) ?_; intro w1 hown1 hg1))
  have hb1 : Below (w.heap.size + 1) (w.alloc (Obj.cells #[Value.slice none 0 0, Value.slice none 0 0, Value.int IntKind.i64 0, Value.int IntKind.i64 0, Value.int IntKind.i64 0] 74)) w1 := (Below.refl _ _).grown hg1 (by simp) (by intro k hk; cases hk)
  have HW : Hid (ResB w.heap.size w (w.alloc (Obj.cells #[Value.slice none 0 0, Value.slice none 0 0, Value.int IntKind.i64 0, Value.int IntKind.i64 0, Value.int IntKind.i64 0] 74)) #[Value.slice none 0 0, Value.slice none 0 0, Value.int IntKind.i64 0, Value.int IntKind.i64 0, Value.int IntKind.i64 0] 74 ∧ Rd B (w.alloc (Obj.cells #[Value.slice none 0 0, Value.slice none 0 0, Value.int IntKind.i64 0, Value.int IntKind.i64 0, Value.int IntKind.i64 0] 74)) (.slice p m c) (I64 (Rf.NI ms))) :=
    ⟨ResB.start _ _ _, (unhide HR).alloc hB _⟩
  generalize w.alloc (Obj.cells #[Value.slice none 0 0, Value.slice none 0 0, Value.int IntKind.i64 0, Value.int IntKind.i64 0, Value.int IntKind.i64 0] 74) = W1 at *
  have hHs : w.heap.size + 1 ≤ W1.heap.size := Nat.le_of_eq (unhide HW).1.size.symm
  rw [(unhide HW).1.size] at hown1
  have HS := hide (And.intro hown1 hb1)
  clear hown1 hg1 hb1 HR
  go_loopw [7, 25] (fun ou ii wr => ∃ i : Nat, i ≤ m ∧ ii = .int .i64 i ∧ wr.ownsRow (w.heap.size + 1) 4 1 ou (i * q) (Bo (Sp.lows q (ms.take i))) ∧ Below (w.heap.size + 1) W1 wr) (fun _ ii _ => m - (intOf ii).toNat)
  case atStart => exact ⟨0, Nat.zero_le _, rfl, by simpa [Sp.lows, Bo] using (unhide HS).1, (unhide HS).2⟩
  case round =>
    obtain ⟨i, hi, rfl, hown, hbel⟩ := hrel
    clear HS
    by_cases hlt : i < m
    · have hlt' : i < ms.length := by rw [← unhide HL]; exact hlt
      obtain ⟨b, o, rfl, hb, hc⟩ := ((unhide HW).2.below (hbel.mono (by omega))).at i _ (Rf.NI_at ms i hlt')
      have hx := (unhide HMS) _ (List.getElem_mem hlt')
      have HSN := hide (Rf.lows_snoc (q := q) hlt')
      have HST := hide (And.intro hown hbel)
      have hiq : i * q ≤ 1000 * 10 := Nat.mul_le_mul (by omega) (by omega)
      generalize ms[i] = x at *
      clear hown hbel
      go_wp2
      go_loopw [7, 30] (fun ou kk wr => ∃ (k : Nat), k ≤ q ∧ kk = .int .i64 k ∧ wr.ownsRow (w.heap.size + 1) 4 1 ou (i * q + k) (Bo (Sp.lows q (ms.take i) ++ Sp.low x k)) ∧ Below (w.heap.size + 1) W1 wr) (fun _ kk _ => q - (intOf kk).toNat)
      case atStart => exact ⟨0, Nat.zero_le _, rfl, by simpa [Sp.low] using (unhide HST).1, (unhide HST).2⟩
      case round =>
        obtain ⟨k, hk, rfl, hown, hbel⟩ := hrel
        clear HST hc
        have hsize := hbel.size
        by_cases hkq : k < q
        · have HST := hide (And.intro hown hbel)
          have hob := and1_i64 x k (by omega)
          have hroom : i * q + k ≤ 10000000000000 := by omega
          clear hown hbel
          go_wp2_with (at_builtin; refine wpList_app _ rfl (.tmp 33) (.tmp 39) 117 rfl (w.heap.size + 1) 4 (.bool false) 1 Tryd.underlying117 Ty.bool rfl _ _ _ rfl ((unhide HST).1.alloc _) _ _ rfl ⟨_, Rd.one wr (.bool (x.testBit k)) 4⟩ (one_bool _) (room1 hroom) (room1b hroom) (by simp; omega) ?_; intro v1 w1 hown1 hg1 hb1; have R1 := (app_below (unhide HST).2 hHs (unhide HST).1 hg1).1; have HR1 := hide (And.intro hown1 R1); clear R1 hown1 hg1 hb1)
          go_roundw
          case rel => exact ⟨k + 1, by omega, by go_num, by rw [low_snoc, ← List.append_assoc, Bo_app (Sp.lows q (ms.take i) ++ Sp.low x k)]; exact (unhide HR1).1, (unhide HR1).2⟩
          case measure => simp [intOf]; omega
        · have he : k = q := by omega
          subst he
          have HST := hide (And.intro hown hbel)
          clear hown hbel
          go_wp2
          go_roundw
          case rel => exact ⟨i + 1, by omega, by go_num, by rw [unhide HSN, Nat.succ_mul]; exact (unhide HST).1, (unhide HST).2⟩
          case measure => simp [intOf]; omega
    · have he : i = m := by omega
      subst he
      have hiq : i * q ≤ 1000 * 10 := Nat.mul_le_mul (by omega) (by omega)
      have htk : ms.take i = ms := List.take_of_length_le (by rw [← unhide HL]; exact Nat.le_refl _)
      rw [htk] at hown
      have hsize := hbel.size
      have HST := hide (And.intro hown hbel)
      clear hown hbel htk
      go_wp2_with (first | (go_at_call 93; refine at_same (unhide HPH _) ?_) | (at_make; refine wpList_make_full _ rfl (.tmp 45) (.tmp 45) 117 rfl (w.heap.size + 1) 4 i0 (.bool false) 1 Tryd.underlying117 (unhide HI).1 (unhide HI).2.1 (unhide HI).2.2.1 .i64 .i64 _ _ h rfl rfl rfl rfl (by rw [(unhide HI).2.2.2]; omega) (by unfold maxLen; omega) (by omega) ?_; intro w2 hown1 hg1))
      rw [Rf.made_false] at hown1
      have hb1 := (unhide HST).2.grown hg1 (by omega) (by intro k hk; cases hk)
      have ho1 := own_kept (unhide HST).1 hg1 (by intro k hk; cases hk)
      have hap : Ap u7 (.slice (some ⟨wr.heap.size, 0, none⟩) h h) := by
        intro k hk he
        have := ((unhide HST).1.lt k hk).2
        simp [Value.ownBlock] at he
        omega
      have H1 : Hid (w2.ownsRow (w.heap.size + 1) 4 1 (.slice (some ⟨wr.heap.size, 0, none⟩) h h) h (Bo (Sp.highTo n q ms 0)) ∧ w2.ownsRow (w.heap.size + 1) 4 1 u7 (i * q) (Bo (Sp.lows q ms)) ∧ Below (w.heap.size + 1) W1 w2) := by
        refine ⟨?_, ho1, hb1⟩
        have e : Sp.highTo n q ms 0 = List.replicate h false := by rw [unhide HH, unhide HL]; rfl
        rw [e]
        exact hown1
      have hsz2 : w.heap.size + 1 ≤ wr.heap.size := by omega
      clear hown1 hg1 hb1 ho1 HST hsize
      generalize wr.heap.size = H at *
      go_loopw [49] (fun jj wq => ∃ j : Nat, j ≤ i ∧ jj = .int .i64 j ∧ wq.ownsRow (w.heap.size + 1) 4 1 (.slice (some ⟨H, 0, none⟩) h h) h (Bo (Sp.highTo n q ms j)) ∧ wq.ownsRow (w.heap.size + 1) 4 1 u7 (i * q) (Bo (Sp.lows q ms)) ∧ Below (w.heap.size + 1) W1 wq) (fun jj _ => i - (intOf jj).toNat)
      case atStart => exact ⟨0, Nat.zero_le _, rfl, (unhide H1).1, (unhide H1).2.1, (unhide H1).2.2⟩
      case round =>
        obtain ⟨j, hj, rfl, hown, hown2, hbel⟩ := hrel
        clear H1
        by_cases hlt : j < i
        · have hlt' : j < ms.length := by rw [← unhide HL]; exact hlt
          obtain ⟨b, o, rfl, hb, hc⟩ := ((unhide HW).2.below (hbel.mono (by omega))).at j _ (Rf.NI_at ms j hlt')
          have hx := (unhide HMS) _ (List.getElem_mem hlt')
          have hxt : ms[j] / 2 ^ q ≤ n / 2 ^ q := Nat.div_le_div_right (by omega)
          have hxi : ((ms[j] : Nat) : Int) / 2 ^ q = ((ms[j] / 2 ^ q : Nat) : Int) := by simp
          have hxh : ms[j] / 2 ^ q + j < h := by rw [unhide HH]; omega
          have HS : Hid (Sp.highTo n q ms (j + 1) = (Sp.highTo n q ms j).set (ms[j] / 2 ^ q + j) true) := by
            simp [Hid, Sp.highTo, hlt']
          have hlen : (Sp.highTo n q ms j).length = h := by rw [Sp.highTo_len, unhide HH, unhide HL]
          have hcell := hown.cellAt (ms[j] / 2 ^ q + j) (by omega)
          rw [Bo_at _ _ (by omega)] at hcell
          have hfr := hown.frozenAt (ms[j] / 2 ^ q + j)
          have HST := hide (And.intro hown (And.intro hown2 hbel))
          generalize (Sp.highTo n q ms j)[ms[j] / 2 ^ q + j] = old at *
          generalize hz : ms[j] / 2 ^ q = z at *
          generalize ms[j] = x at *
          have hzz : (0 : Int) ≤ (z : Int) := by omega
          clear hown hown2 hbel hlen hz hxt
          go_wp2
          go_roundw
          case rel =>
            have st := (unhide HST).1.stored (z + j) (.bool true)
            refine ⟨j + 1, by omega, by go_num, ?_, ?_, (unhide HST).2.2.setCell hsz2 _⟩
            · rw [HS.out, Rf.Bo_set]
              exact st.1
            · refine own_kept (unhide HST).2.1 st.2 ?_
              intro k hk he
              exact hap k he hk
          case measure => simp [intOf]; omega
        · have he : j = i := by omega
          subst he
          have hsz := hbel.size
          have hlh : (Bo (Sp.highTo n q ms j)).length = h := by rw [Bo_len, Sp.highTo_len, unhide HH, unhide HL]
          have HF : Hid (Sp.marks n ms = Sp.lows q ms ++ Sp.highTo n q ms j) := by rw [Hid, HE.out, unhide HL]; rfl
          have HFL : Hid ((Sp.marks n ms).length = j * q + (Bo (Sp.highTo n q ms j)).length) := by
            rw [Hid, HF.out, List.length_append, Bo_len, Sp.lows_len, unhide HL]
          have hml : (Sp.marks n ms).length ≤ 1000000 := by rw [HFL.out, hlh]; omega
          have HLH := hide hlh
          have HST := hide (And.intro hown (And.intro hown2 hbel))
          clear hown hown2 hbel hlh
          go_wp2_with (first
            | (at_builtin; refine wpList_app _ rfl (.tmp 62) (.tmp 63) 117 rfl (w.heap.size + 1) 4 (.bool false) 1 Tryd.underlying117 Ty.bool rfl u7 _ _ rfl (unhide HST).2.1 _ _ rfl ⟨_, Rd.owned (unhide HST).1⟩ (one_Bo _) (by rw [unhide HLH]; unfold maxLen; omega) (by rw [unhide HLH]; omega) (by omega) ?_; intro v1 w3 hown1 hg1 hb1; have R1 := (apps_below (unhide HST).2.2 hHs (unhide HST).2.1 hg1).1; rw [← Bo_app, ← HF.out, ← HFL.out] at hown1; have HR1 := hide (And.intro hown1 R1); have hs3 := R1.size; clear R1 hown1 hg1 hb1))
          refine (rowOf_v (Rd.owned (unhide HR1).1) (Nat.le_refl _) (by omega)).mono ?_
          rintro e w4 ⟨yw, ya, rfl, ho4, hb4⟩
          obtain ⟨pw, cw, pa, ca, rfl, rfl⟩ := ho4.form
          have HX := hide (ResB.end (unhide HW).1 (unhide HR1).2 ho4 hb4 [.slice pw ((Sp.marks n ms).length / 64 + 1) cw, .slice pa ((Sp.marks n ms).length / 64 + 1) ca, .int .i64 ((Sp.marks n ms).length : Nat), .int .i64 (j : Nat), .int .i64 (q : Nat)] (by simp))
          have c0 := (unhide HX).1 0 _ rfl
          have c1 := (unhide HX).1 1 _ rfl
          have c2 := (unhide HX).1 2 _ rfl
          have c3 := (unhide HX).1 3 _ rfl
          have c4 := (unhide HX).1 4 _ rfl
          have hf4 := (unhide HX).2.1
          have g0 := (unhide HX).2.2.1 0 _ rfl
          have g1 := (unhide HX).2.2.1 1 _ rfl
          have g2 := (unhide HX).2.2.1 2 _ rfl
          have g3 := (unhide HX).2.2.1 3 _ rfl
          have g4 := (unhide HX).2.2.1 4 _ rfl
          simp only [setAll, Nat.zero_add, Nat.reduceAdd] at g0 g1 g2 g3 g4
          have HG := hide (And.intro g0 (And.intro g1 (And.intro g2 (And.intro g3 g4))))
          clear ho4 hb4 g0 g1 g2 g3 g4
          go_wp2
          refine bodyPost_ret (v := .agg #[.slice pw ((Sp.marks n ms).length / 64 + 1) cw, .slice pa ((Sp.marks n ms).length / 64 + 1) ca, .int .i64 ((Sp.marks n ms).length : Nat), .int .i64 (j : Nat), .int .i64 (q : Nat)]) (by simp [results, Tryd.results61, go_sem, (unhide HG).1, (unhide HG).2.1, (unhide HG).2.2.1, (unhide HG).2.2.2.1, (unhide HG).2.2.2.2]) rfl ?_
          exact ⟨_, _, rfl, (unhide HX).2.2.2⟩
end Pr
end Go.Proofs.YtolkjadklbchfaaDoor
/- Walks of the program: math/bits.Len64, layer.Width, has, parted, down, Row. -/
open Go Go.RowKit
namespace Go.Proofs.YtolkjadklbchfaaDoor
namespace Pr
open Mem Rf

theorem tab_blen : ∀ n : Fin 256, (Lib.len8tab[n.val]?.getD 0).toNat = Sp.blen n.val := by decide +kernel
theorem tab_at (y : Nat) (hy : y < 256) (h : y < Lib.len8tab.size) : (Lib.len8tab[y]'h).toNat = Sp.blen y := by
  have := tab_blen ⟨y, hy⟩
  rw [getElem?_pos Lib.len8tab y h] at this
  exact this
theorem blen_shift (x s : Nat) (h : 2 ^ s ≤ x) : Sp.blen x = s + Sp.blen (x / 2 ^ s) := by
  have key : ∀ k, Sp.blen x ≤ k ↔ s + Sp.blen (x / 2 ^ s) ≤ k := by
    intro k
    rw [Sp.blen_le]
    by_cases hk : s ≤ k
    · have h2 := Sp.blen_le (v := x / 2 ^ s) (k := k - s)
      rw [Nat.div_lt_iff_lt_mul (Nat.pow_pos (by omega)), ← Nat.pow_add, show k - s + s = k from by omega] at h2
      omega
    · have : 2 ^ k ≤ 2 ^ s := Nat.pow_le_pow_right (by omega) (by omega)
      omega
  have h1 := (key (Sp.blen x)).1 (Nat.le_refl _)
  have h2 := (key (s + Sp.blen (x / 2 ^ s))).2 (Nat.le_refl _)
  omega
theorem len_end (s : Nat) (x y : Int) (hs : s ≤ 56) (hy : y.toNat = x.toNat / 2 ^ s) (hy2 : y.toNat < 256) (hx : s = 0 ∨ 2 ^ s ≤ x.toNat) (h : y.toNat < Lib.len8tab.size) :
    wrap64 ((s : Int) + wrap64 ((Lib.len8tab[y.toNat]'h).toNat : Int)) = (Sp.blen x.toNat : Nat) := by
  rw [tab_at y.toNat hy2 h]
  have hb : Sp.blen y.toNat ≤ 8 := Sp.blen_le.2 hy2
  have e : Sp.blen x.toNat = s + Sp.blen y.toNat := by
    rcases hx with rfl | hx
    · rw [hy]; simp
    · rw [hy]; exact blen_shift _ _ hx
  rw [e]
  generalize Sp.blen y.toNat = b at *
  unfold wrap64
  omega
set_option maxRecDepth 100000 in
theorem tab_size : (Lib.len8tab.size : Int) = 256 := by
  have : Lib.len8tab.size = 256 := Lib.len8tab_size
  omega
theorem le56 {x : Int} (h1 : x ≤ 18446744073709551615) (a0 : 4294967296 ≤ x) (a1 : 65536 ≤ x / 4294967296) (a2 : 256 ≤ x / 4294967296 / 65536) (h : (x / 4294967296 / 65536 / 256).toNat < Lib.len8tab.size) : wrap64 (56 + wrap64 ((Lib.len8tab[(x / 4294967296 / 65536 / 256).toNat]'h).toNat : Int)) = (Sp.blen x.toNat : Nat) :=
  len_end 56 x _ (by omega) (show (x / 4294967296 / 65536 / 256).toNat = x.toNat / 72057594037927936 by omega) (by omega) (Or.inr (show 72057594037927936 ≤ x.toNat by omega)) h
theorem le48 {x : Int} (h1 : x ≤ 18446744073709551615) (a0 : 4294967296 ≤ x) (a1 : 65536 ≤ x / 4294967296) (a2 : x / 4294967296 / 65536 < 256) (h : (x / 4294967296 / 65536).toNat < Lib.len8tab.size) : wrap64 (48 + wrap64 ((Lib.len8tab[(x / 4294967296 / 65536).toNat]'h).toNat : Int)) = (Sp.blen x.toNat : Nat) :=
  len_end 48 x _ (by omega) (show (x / 4294967296 / 65536).toNat = x.toNat / 281474976710656 by omega) (by omega) (Or.inr (show 281474976710656 ≤ x.toNat by omega)) h
theorem le40 {x : Int} (h1 : x ≤ 18446744073709551615) (a0 : 4294967296 ≤ x) (a1 : x / 4294967296 < 65536) (a2 : 256 ≤ x / 4294967296) (h : (x / 4294967296 / 256).toNat < Lib.len8tab.size) : wrap64 (40 + wrap64 ((Lib.len8tab[(x / 4294967296 / 256).toNat]'h).toNat : Int)) = (Sp.blen x.toNat : Nat) :=
  len_end 40 x _ (by omega) (show (x / 4294967296 / 256).toNat = x.toNat / 1099511627776 by omega) (by omega) (Or.inr (show 1099511627776 ≤ x.toNat by omega)) h
theorem le32 {x : Int} (h1 : x ≤ 18446744073709551615) (a0 : 4294967296 ≤ x) (a1 : x / 4294967296 < 256) (h : (x / 4294967296).toNat < Lib.len8tab.size) : wrap64 (32 + wrap64 ((Lib.len8tab[(x / 4294967296).toNat]'h).toNat : Int)) = (Sp.blen x.toNat : Nat) :=
  len_end 32 x _ (by omega) (show (x / 4294967296).toNat = x.toNat / 4294967296 by omega) (by omega) (Or.inr (show 4294967296 ≤ x.toNat by omega)) h
theorem le24 {x : Int} (_h1 : x ≤ 18446744073709551615) (a0 : x < 4294967296) (a1 : 65536 ≤ x) (a2 : 256 ≤ x / 65536) (h : (x / 65536 / 256).toNat < Lib.len8tab.size) : wrap64 (24 + wrap64 ((Lib.len8tab[(x / 65536 / 256).toNat]'h).toNat : Int)) = (Sp.blen x.toNat : Nat) :=
  len_end 24 x _ (by omega) (show (x / 65536 / 256).toNat = x.toNat / 16777216 by omega) (by omega) (Or.inr (show 16777216 ≤ x.toNat by omega)) h
theorem le16 {x : Int} (h1 : x ≤ 18446744073709551615) (a0 : 65536 ≤ x) (a1 : x / 65536 < 256) (h : (x / 65536).toNat < Lib.len8tab.size) : wrap64 (16 + wrap64 ((Lib.len8tab[(x / 65536).toNat]'h).toNat : Int)) = (Sp.blen x.toNat : Nat) :=
  len_end 16 x _ (by omega) (show (x / 65536).toNat = x.toNat / 65536 by omega) (by omega) (Or.inr (show 65536 ≤ x.toNat by omega)) h
theorem le8 {x : Int} (_h1 : x ≤ 18446744073709551615) (a0 : x < 65536) (a1 : 256 ≤ x) (h : (x / 256).toNat < Lib.len8tab.size) : wrap64 (8 + wrap64 ((Lib.len8tab[(x / 256).toNat]'h).toNat : Int)) = (Sp.blen x.toNat : Nat) :=
  len_end 8 x _ (by omega) (show (x / 256).toNat = x.toNat / 256 by omega) (by omega) (Or.inr (show 256 ≤ x.toNat by omega)) h
theorem le0 {x : Int} (a0 : x < 256) (h : x.toNat < Lib.len8tab.size) : wrap64 (wrap64 ((Lib.len8tab[x.toNat]'h).toNat : Int)) = (Sp.blen x.toNat : Nat) := by
  have e := len_end 0 x x (by omega) (by simp) (by omega) (Or.inl rfl) h
  simpa using e

set_option maxHeartbeats 4000000 in
set_option maxRecDepth 100000 in
theorem len64_int (x : Int) (h0 : 0 ≤ x) (h1 : x ≤ 18446744073709551615) (w : World) :
    Calls Tryd.prog 94 #[.int .u64 x] w fun e w' => e = .returned (.int .i64 (Sp.blen x.toNat : Nat)) ∧ w' = w := by
  have hsz := tab_size
  go_enter Tryd.func94, Tryd.ntmps94
  go_wp2
  all_goals go_ret
  all_goals refine ⟨ret_int ?_, rfl⟩
  all_goals first | exact le56 h1 (by assumption) (by assumption) (by assumption) _ | exact le48 h1 (by assumption) (by assumption) (by assumption) _ | exact le40 h1 (by assumption) (by assumption) (by assumption) _ | exact le32 h1 (by assumption) (by assumption) _ | exact le24 h1 (by assumption) (by assumption) (by assumption) _ | exact le16 h1 (by assumption) (by assumption) _ | exact le8 h1 (by assumption) (by assumption) _ | exact le0 (by assumption) _

theorem len64_any (x : Nat) (hx : x < 18446744073709551616) (w : World) :
    Calls Tryd.prog 94 #[.int .u64 (x : Int)] w fun e w' => e = .returned (.int .i64 (Sp.blen x : Nat)) ∧ w' = w := by
  have h := len64_int (x : Int) (by omega) (by omega) w
  rw [Int.toNat_natCast] at h
  exact h

/-- All bits of the values together. -/
def orTo (vs : List Nat) : Nat → Nat
  | 0 => 0
  | k + 1 => orTo vs k ||| (vs[k]?.getD 0)
theorem orTo_lt {vs : List Nat} (hv : ∀ x ∈ vs, x < 18446744073709551616) (k : Nat) : orTo vs k < 18446744073709551616 := by
  induction k with
  | zero => simp [orTo]
  | succ k ih => exact Nat.or_lt_two_pow (n := 64) ih (Sp.getD_lt hv (by omega) k)
theorem blen_or (a b : Nat) : Sp.blen (a ||| b) = max (Sp.blen a) (Sp.blen b) := by
  have key : ∀ k, Sp.blen (a ||| b) ≤ k ↔ max (Sp.blen a) (Sp.blen b) ≤ k := by
    intro k
    rw [Sp.blen_le, Nat.max_le, Sp.blen_le, Sp.blen_le]
    constructor
    · intro h
      exact ⟨Nat.lt_of_le_of_lt Nat.left_le_or h, Nat.lt_of_le_of_lt Nat.right_le_or h⟩
    · intro h
      exact Nat.or_lt_two_pow h.1 h.2
  have h1 := (key (Sp.blen (a ||| b))).1 (Nat.le_refl _)
  have h2 := (key (max (Sp.blen a) (Sp.blen b))).2 (Nat.le_refl _)
  omega
theorem blen_orTo (vs : List Nat) (k : Nat) (hk : k ≤ vs.length) : Sp.blen (orTo vs k) = Sp.widthOf (vs.take k) := by
  induction k with
  | zero => rfl
  | succ k ih =>
    rw [orTo, blen_or, ih (by omega), take_snoc vs k (by omega), Sp.widthOf_snoc]
    simp [show k < vs.length by omega]

set_option maxHeartbeats 400000 in
theorem lwidth_any (p : Option Addr) (B n c : Nat) (vs : List Nat) (w : World) (hr : Rd B w (.slice p n c) (U64 vs)) (hv : ∀ x ∈ vs, x < 18446744073709551616) (hn : n ≤ 1000000000000) :
    Calls Tryd.prog 87 #[.slice p n c] w fun e w' => e = .returned (.int .i64 (Sp.widthOf vs : Nat)) ∧ w' = w := by
  obtain ⟨hl, hlc⟩ := hr.len
  rw [U64_len] at hl
  subst hl
  have HR := hide hr
  have HV := hide hv
  clear hr hv
  go_enter Tryd.func87, Tryd.ntmps87
  go_wp2
  go_loop [3, 8] (fun a i => ∃ k : Nat, k ≤ vs.length ∧ i = .int .i64 k ∧ a = .int .u64 (orTo vs k : Nat)) (fun _ i => vs.length - (intOf i).toNat)
  case atStart => exact ⟨0, Nat.zero_le _, rfl, rfl⟩
  case round =>
    obtain ⟨k, hk, rfl, rfl⟩ := hrel
    have ho := orTo_lt (unhide HV) k
    by_cases hlt : k < vs.length
    · obtain ⟨b, o, rfl, hb, hc⟩ := (unhide HR).at k _ (U64_at vs k hlt)
      have hvk : vs[k] < 18446744073709551616 := unhide HV _ (List.getElem_mem hlt)
      have e1 := u64_or_nat (orTo vs k) vs[k] ho hvk
      have HS : Hid (orTo vs (k + 1) = orTo vs k ||| vs[k]) := by simp [Hid, orTo, hlt]
      generalize hy : orTo vs k ||| vs[k] = y at *
      generalize vs[k] = x at *
      generalize orTo vs k = z at *
      clear hy
      go_wp2
      go_round
      case rel => exact ⟨k + 1, by omega, by go_num, by rw [HS.out]⟩
      case measure => simp [intOf]; omega
    · have he : k = vs.length := by omega
      subst he
      have HB : Hid (Sp.blen (orTo vs vs.length) = Sp.widthOf vs) := by rw [Hid, blen_orTo _ _ (Nat.le_refl _), List.take_length]
      have HC := hide (fun W => len64_any (orTo vs vs.length) ho W)
      generalize orTo vs vs.length = y at *
      go_wp2_with (go_at_call 94; refine at_same (unhide HC _) ?_)
      go_ret
      exact ⟨ret_int (by rw [HB.out]), rfl⟩

set_option maxHeartbeats 400000 in
theorem has_any (x j : Nat) (w : World) (hx : x < 18446744073709551616) (hj : j < 64) :
    Calls Tryd.prog 65 #[.int .u64 (x : Int), .int .i64 (j : Int)] w fun e w' => e = .returned (.bool (x.testBit j)) ∧ w' = w := by
  have h := and1_u64 x hx j
  go_enter Tryd.func65, Tryd.ntmps65
  go_wp2
  go_ret
  exact ⟨ret_bool rfl, rfl⟩
end Pr
end Go.Proofs.YtolkjadklbchfaaDoor
