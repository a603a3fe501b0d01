/- Walks: Marks. -/
import Derived.Test.YtmefkcbchpjeoaaDoorRefC
open Go Go.RowKit
namespace Go.Proofs.YtmefkcbchpjeoaaDoor
namespace Rf
open Mem

def NI (ms : List Nat) : List Int := ms.map fun (x : Nat) => (x : Int)
theorem NI_at (ms : List Nat) (k : Nat) (h : k < ms.length) : (I64 (NI ms))[k]? = some (.int .i64 (ms[k] : Int)) := by simp [I64, NI, h]
theorem NI_len (ms : List Nat) : (I64 (NI ms)).length = ms.length := by simp [I64, NI]

theorem powTo_le (n m f q : Nat) : Sp.powTo n m f q ≤ q + f := by
  induction f generalizing q with
  | zero => simp [Sp.powTo]
  | succ f ih =>
    unfold Sp.powTo
    split
    · have := ih (q + 1); omega
    · omega
theorem pow_le (n m : Nat) : Sp.pow n m ≤ n := by have := powTo_le n m n 0; unfold Sp.pow; omega

theorem lows_snoc {q : Nat} {ms : List Nat} {i : Nat} (h : i < ms.length) : Sp.lows q (ms.take (i + 1)) = Sp.lows q (ms.take i) ++ Sp.low ms[i] q := by
  unfold Sp.lows
  rw [take_snoc _ _ h, List.flatMap_append]
  congr 1
  simp

theorem made_false (k : Nat) : (madeCells (Value.bool false).cells (k * 1)).toList = Bo (List.replicate k false) := by
  show (madeCells #[Value.bool false] (k * 1)).toList = _
  rw [toList_madeCells_one, Nat.mul_one]
  simp [Bo]
theorem Bo_set (xs : List Bool) (j : Nat) (y : Bool) : Bo (xs.set j y) = (Bo xs).set j (.bool y) := by simp [Bo, List.map_set]

set_option maxHeartbeats 1000000 in
theorem marks_any (p : Option Addr) (B n m c : Nat) (ms : List Nat) (w : World) (hr : Rd B w (.slice p m c) (I64 (NI ms))) (hB : B ≤ w.heap.size) (hms : ∀ x ∈ ms, x < n) (hn : n ≤ 1000) (hm : m ≤ 1000) :
    Calls Tryd.prog 31 #[.int .i64 n, .slice p m c] w fun e w' => ∃ v, e = .returned v ∧ w'.ownsRow w.heap.size 4 1 v (Sp.marks n ms).length (Bo (Sp.marks n ms)) ∧ Below w.heap.size w w' := by
  obtain ⟨hl, hlc⟩ := hr.len
  rw [NI_len] at hl
  have hpow := power_any n m w (by omega) (by omega)
  have HP := hide hpow
  have HE : Hid (Sp.marks n ms = Sp.lows (Sp.pow n m) ms ++ Sp.high n (Sp.pow n m) ms) := by rw [hl]; rfl
  have hq := pow_le n m
  have HTQ : Hid (Sp.tw (Sp.pow n m) = 2 ^ Sp.pow n m) := rfl
  have ht : 0 < Sp.tw (Sp.pow n m) := Nat.pow_pos (by omega)
  have HL := hide hl
  clear hpow hl
  generalize Sp.pow n m = q at *
  generalize hT : Sp.tw q = tw at *
  have ht2 : n / tw ≤ 1000 := Nat.le_trans (Nat.div_le_self _ _) hn
  clear hT
  obtain ⟨i0, hi0, hz0, hz1, hz2⟩ := info_parts Ty.bool
  have Hb : Hid (i0.bytes = 1) := hz2
  have HI := hide (And.intro hi0 (And.intro hz0 hz1))
  clear hz2 hi0 hz0 hz1
  obtain ⟨h, hh⟩ : ∃ h, h = m + n / tw + 1 := ⟨_, rfl⟩
  have hh2 : h ≤ 3000 := by omega
  have HH := hide hh
  clear hh
  have hd0 : (0 : Int) ≤ (n : Int) / (tw : Int) := by rw [← Int.natCast_ediv]; exact Int.natCast_nonneg _
  have hd1 : (n : Int) / (tw : Int) ≤ 1000 := by rw [← Int.natCast_ediv]; exact Int.ofNat_le.2 ht2
  go_enter Tryd.func31, Tryd.ntmps31
  go_wp2_with (go_at_call 62; refine at_same (unhide HP) ?_)
  go_loopw [8, 9] (fun ou ii wr => ∃ i : Nat, i ≤ m ∧ ii = .int .i64 i ∧ wr.ownsRow w.heap.size 4 1 ou (i * q) (Bo (Sp.lows q (ms.take i))) ∧ Below w.heap.size w wr) (fun _ ii _ => m - (intOf ii).toNat)
  case atStart => exact ⟨0, Nat.zero_le _, rfl, by simpa [Sp.lows, Bo] using World.ownsRow_nil _ _ _ _, Below.refl _ _⟩
  case round =>
    obtain ⟨i, hi, rfl, hown, hbel⟩ := hrel
    by_cases hlt : i < m
    · have hlt' : i < ms.length := by rw [← unhide HL]; exact hlt
      obtain ⟨b, o, rfl, hb, hc⟩ := (hr.below (hbel.mono hB)).at i _ (NI_at ms i hlt')
      have hx := hms _ (List.getElem_mem hlt')
      have HS := hide (lows_snoc (q := q) hlt')
      have HST := hide (And.intro hown hbel)
      have hiq : i * q ≤ 1000 * 1000 := Nat.mul_le_mul (by omega) (by omega)
      generalize ms[i] = x at *
      clear hown hbel
      go_wp2
      go_loopw [8, 10, 11] (fun ou pp kk wr => ∃ (k y : Nat) (done : List Bool), k ≤ q ∧ y < 1000 ∧ kk = .int .i64 k ∧ pp = .int .i64 y ∧ wr.ownsRow w.heap.size 4 1 ou (i * q + k) (Bo done) ∧ Sp.lows q (ms.take (i + 1)) = done ++ Sp.low y (q - k) ∧ Below w.heap.size w wr) (fun _ _ kk _ => q - (intOf kk).toNat)
      case atStart => exact ⟨0, x, _, Nat.zero_le _, by omega, rfl, rfl, (unhide HST).1, by rw [unhide HS]; rfl, (unhide HST).2⟩
      case round =>
        obtain ⟨k, y, done, hk, hy, rfl, rfl, hown, heq, hbel⟩ := hrel
        clear HST HS hc
        have hsize := hbel.size
        by_cases hkq : k < q
        · have HEQ : Hid (Sp.lows q (ms.take (i + 1)) = (done ++ [y % 2 == 1]) ++ Sp.low (y / 2) (q - (k + 1))) := by
            rw [Hid, heq, show q - k = q - (k + 1) + 1 from by omega, List.append_assoc]
            rfl
          have HST := hide (And.intro hown hbel)
          have hob : ((y : Int) % 2 == 1) = (y % 2 == 1) := odd_cast y
          have hroom : i * q + k ≤ 10000000000000 := by omega
          clear hown hbel heq
          go_wp2_with (at_builtin; refine wpList_app _ rfl (.tmp 36) (.tmp 40) 74 rfl w.heap.size 4 (.bool false) 1 Tryd.underlying74 Ty.bool rfl _ _ _ rfl ((unhide HST).1.alloc _) _ _ rfl ⟨_, Rd.one wr (.bool (y % 2 == 1)) 4⟩ (one_bool _) (room1 hroom) (room1b hroom) (by simp; omega) ?_; intro v1 w1 hown1 hg1 hb1; have R1 := (app_below (unhide HST).2 (Nat.le_refl _) (unhide HST).1 hg1).1; have HR1 := hide (And.intro hown1 R1); clear R1 hown1 hg1 hb1)
          go_roundw
          case rel => exact ⟨k + 1, y / 2, done ++ [y % 2 == 1], by omega, by omega, by go_num, by go_num, by rw [Bo_app]; exact (unhide HR1).1, HEQ.out, (unhide HR1).2⟩
          case measure => simp [intOf]; omega
        · have he : k = q := by omega
          subst he
          have HX : Hid (Sp.lows k (ms.take (i + 1)) = done) := by rw [Hid, heq]; simp [Sp.low]
          have HST := hide (And.intro hown hbel)
          clear hown hbel heq
          go_wp2
          go_roundw
          case rel => exact ⟨i + 1, by omega, by go_num, by rw [HX.out, Nat.succ_mul]; exact (unhide HST).1, (unhide HST).2⟩
          case measure => simp [intOf]; omega
    · have he : i = m := by omega
      subst he
      have hiq : i * q ≤ 1000 * 1000 := Nat.mul_le_mul (by omega) (by omega)
      have htk : ms.take i = ms := List.take_of_length_le (by rw [← unhide HL]; exact Nat.le_refl _)
      rw [htk] at hown
      have hsize := hbel.size
      have HST := hide (And.intro hown hbel)
      clear hown hbel htk
      go_wp2_with (at_make; (refine wpList_make_full _ rfl (.tmp 49) (.tmp 49) 74 rfl w.heap.size 4 i0 (.bool false) 1 Tryd.underlying74 (unhide HI).1 (unhide HI).2.1 (unhide HI).2.2 .i64 .i64 _ _ h rfl rfl (by rw [unhide HH]; simp) (by rw [unhide HH]; simp) (by rw [Hb.out]; omega) (by unfold maxLen; omega) hsize ?_); intro w1 hown1 hg1)
      rw [made_false] at hown1
      have hb1 := (unhide HST).2.grown hg1 hsize (by intro k hk; cases hk)
      have ho1 := own_kept (unhide HST).1 hg1 (by intro k hk; cases hk)
      have hap : Ap u8 (.slice (some ⟨wr.heap.size, 0, none⟩) h h) := by
        intro k hk he
        have := ((unhide HST).1.lt k hk).2
        simp [Value.ownBlock] at he
        omega
      have H1 : Hid (w1.ownsRow w.heap.size 4 1 (.slice (some ⟨wr.heap.size, 0, none⟩) h h) h (Bo (Sp.highTo n q ms 0)) ∧ w1.ownsRow w.heap.size 4 1 u8 (i * q) (Bo (Sp.lows q ms)) ∧ Below w.heap.size w w1) := by
        refine ⟨?_, ho1, hb1⟩
        have e : Sp.highTo n q ms 0 = List.replicate h false := by rw [unhide HH, HTQ.out, unhide HL]; rfl
        rw [e]
        exact hown1
      clear hown1 hg1 hb1 ho1 HST
      generalize wr.heap.size = H at *
      go_loopw [13] (fun jj wq => ∃ j : Nat, j ≤ i ∧ jj = .int .i64 j ∧ wq.ownsRow w.heap.size 4 1 (.slice (some ⟨H, 0, none⟩) h h) h (Bo (Sp.highTo n q ms j)) ∧ wq.ownsRow w.heap.size 4 1 u8 (i * q) (Bo (Sp.lows q ms)) ∧ Below w.heap.size w wq) (fun jj _ => i - (intOf jj).toNat)
      case atStart => exact ⟨0, Nat.zero_le _, rfl, (unhide H1).1, (unhide H1).2.1, (unhide H1).2.2⟩
      case round =>
        obtain ⟨j, hj, rfl, hown, hown2, hbel⟩ := hrel
        clear H1
        by_cases hlt : j < i
        · have hlt' : j < ms.length := by rw [← unhide HL]; exact hlt
          obtain ⟨b, o, rfl, hb, hc⟩ := (hr.below (hbel.mono hB)).at j _ (NI_at ms j hlt')
          have hx := hms _ (List.getElem_mem hlt')
          have hxt : ms[j] / tw ≤ n / tw := Nat.div_le_div_right (by omega)
          have hxi : ((ms[j] : Nat) : Int) / (tw : Int) = ((ms[j] / tw : Nat) : Int) := by simp
          have hxh : ms[j] / tw + j < h := by rw [unhide HH]; omega
          have HS : Hid (Sp.highTo n q ms (j + 1) = (Sp.highTo n q ms j).set (ms[j] / tw + j) true) := by
            rw [HTQ.out]
            simp [Hid, Sp.highTo, hlt']
          have hlen : (Sp.highTo n q ms j).length = h := by rw [Sp.highTo_len, unhide HH, HTQ.out, unhide HL]
          have hcell := hown.cellAt (ms[j] / tw + j) (by omega)
          rw [Bo_at _ _ (by omega)] at hcell
          have hfr := hown.frozenAt (ms[j] / tw + j)
          have HST := hide (And.intro hown (And.intro hown2 hbel))
          generalize (Sp.highTo n q ms j)[ms[j] / tw + j] = old at *
          generalize hz : ms[j] / tw = z at *
          generalize ms[j] = x at *
          have hzz : (0 : Int) ≤ (z : Int) := by omega
          clear hown hown2 hbel hlen hz
          go_wp2
          go_roundw
          case rel =>
            have st := (unhide HST).1.stored (z + j) (.bool true)
            refine ⟨j + 1, by omega, by go_num, ?_, ?_, (unhide HST).2.2.setCell hsize _⟩
            · rw [HS.out, Bo_set]
              exact st.1
            · refine own_kept (unhide HST).2.1 st.2 ?_
              intro k hk he
              exact hap k he hk
          case measure => simp [intOf]; omega
        · have he : j = i := by omega
          subst he
          have hsz := hbel.size
          have hlh : (Bo (Sp.highTo n q ms j)).length = h := by rw [Bo_len, Sp.highTo_len, unhide HH, HTQ.out, unhide HL]
          have HF : Hid (Sp.marks n ms = Sp.lows q ms ++ Sp.highTo n q ms j) := by rw [Hid, HE.out, unhide HL]; rfl
          have HFL : Hid ((Sp.marks n ms).length = j * q + (Bo (Sp.highTo n q ms j)).length) := by
            rw [Hid, HF.out, List.length_append, Bo_len, Sp.lows_len, unhide HL]
          have HLH := hide hlh
          have HST := hide (And.intro hown (And.intro hown2 hbel))
          clear hown hown2 hbel hlh
          go_wp2_with (at_builtin; refine wpList_app _ rfl (.tmp 66) (.tmp 67) 74 rfl w.heap.size 4 (.bool false) 1 Tryd.underlying74 Ty.bool rfl u8 _ _ rfl (unhide HST).2.1 _ _ rfl ⟨_, Rd.owned (unhide HST).1⟩ (one_Bo _) (by rw [unhide HLH]; unfold maxLen; omega) (by rw [unhide HLH]; omega) hsz ?_; intro v1 w2 hown1 hg1 hb1; have R1 := (apps_below (unhide HST).2.2 (Nat.le_refl _) (unhide HST).2.1 hg1).1; have HR1 := hide (And.intro hown1 R1); clear R1 hown1 hg1 hb1)
          go_ret
          exact ⟨_, rfl, by rw [HFL.out, HF.out, Bo_app]; exact (unhide HR1).1, (unhide HR1).2⟩
end Rf
end Go.Proofs.YtmefkcbchpjeoaaDoor
