import Derived.Test.YtolkjadklbchfaaGreatDoorG2
import Derived.Test.YtolkjadklbchfaaGreatDoorG3
/- Walks: Marks. -/
open Go Go.RowKit
namespace Go.Proofs.YtolkjadklbchfaaGreatDoor
namespace Rf
open Mem

def NI (ms : List Nat) : List Int := ms.map fun (x : Nat) => (x : Int)
theorem NI_at (ms : List Nat) (k : Nat) (h : k < ms.length) : (I64 (NI ms))[k]? = some (.int .i64 (ms[k] : Int)) := by simp [I64, NI, h]
theorem NI_len (ms : List Nat) : (I64 (NI ms)).length = ms.length := by simp [I64, NI]

theorem powTo_le (n m f q : Nat) : Sp.powTo n m f q ≤ q + f := by
  induction f generalizing q with
  | zero => simp [Sp.powTo]
  | succ f ih =>
    unfold Sp.powTo
    split
    · have := ih (q + 1); omega
    · omega
theorem pow_le (n m : Nat) : Sp.pow n m ≤ n := by have := powTo_le n m n 0; unfold Sp.pow; omega

theorem lows_snoc {q : Nat} {ms : List Nat} {i : Nat} (h : i < ms.length) : Sp.lows q (ms.take (i + 1)) = Sp.lows q (ms.take i) ++ Sp.low ms[i] q := by
  unfold Sp.lows
  rw [take_snoc _ _ h, List.flatMap_append]
  congr 1
  simp

theorem made_false (k : Nat) : (madeCells (Value.bool false).cells (k * 1)).toList = Bo (List.replicate k false) := by
  show (madeCells #[Value.bool false] (k * 1)).toList = _
  rw [toList_madeCells_one, Nat.mul_one]
  simp [Bo]
theorem Bo_set (xs : List Bool) (j : Nat) (y : Bool) : Bo (xs.set j y) = (Bo xs).set j (.bool y) := by simp [Bo, List.map_set]

set_option maxHeartbeats 1000000 in
theorem marks_any (p : Option Addr) (B n m c : Nat) (ms : List Nat) (w : World) (hr : Rd B w (.slice p m c) (I64 (NI ms))) (hB : B ≤ w.heap.size) (hms : ∀ x ∈ ms, x < n) (hn : n ≤ 1000) (hm : m ≤ 1000) :
    Calls Tryz.prog 32 #[.int .i64 n, .slice p m c] w fun e w' => ∃ v, e = .returned v ∧ w'.ownsRow w.heap.size 4 1 v (Sp.marks n ms).length (Bo (Sp.marks n ms)) ∧ Below w.heap.size w w' := by
  obtain ⟨hl, hlc⟩ := hr.len
  rw [NI_len] at hl
  have hpow := power_any n m w (by omega) (by omega)
  have HP := hide hpow
  have HE : Hid (Sp.marks n ms = Sp.lows (Sp.pow n m) ms ++ Sp.high n (Sp.pow n m) ms) := by rw [hl]; rfl
  have hq := pow_le n m
  have HTQ : Hid (Sp.tw (Sp.pow n m) = 2 ^ Sp.pow n m) := rfl
  have ht : 0 < Sp.tw (Sp.pow n m) := Nat.pow_pos (by omega)
  have HL := hide hl
  clear hpow hl
  generalize Sp.pow n m = q at *
  generalize hT : Sp.tw q = tw at *
  have ht2 : n / tw ≤ 1000 := Nat.le_trans (Nat.div_le_self _ _) hn
  clear hT
  obtain ⟨i0, hi0, hz0, hz1, hz2⟩ := info_parts Ty.bool
  have Hb : Hid (i0.bytes = 1) := hz2
  have HI := hide (And.intro hi0 (And.intro hz0 hz1))
  clear hz2 hi0 hz0 hz1
  obtain ⟨h, hh⟩ : ∃ h, h = m + n / tw + 1 := ⟨_, rfl⟩
  have hh2 : h ≤ 3000 := by omega
  have HH := hide hh
  clear hh
  have hd0 : (0 : Int) ≤ (n : Int) / (tw : Int) := by rw [← Int.natCast_ediv]; exact Int.natCast_nonneg _
  have hd1 : (n : Int) / (tw : Int) ≤ 1000 := by rw [← Int.natCast_ediv]; exact Int.ofNat_le.2 ht2
  go_enter Tryz.func32, Tryz.ntmps32
  go_wp2_with (go_at_call 73; refine at_same (unhide HP) ?_)
  go_loopw [8, 9] (fun ou ii wr => ∃ i : Nat, i ≤ m ∧ ii = .int .i64 i ∧ wr.ownsRow w.heap.size 4 1 ou (i * q) (Bo (Sp.lows q (ms.take i))) ∧ Below w.heap.size w wr) (fun _ ii _ => m - (intOf ii).toNat)
  case atStart => exact ⟨0, Nat.zero_le _, rfl, by simpa [Sp.lows, Bo] using World.ownsRow_nil _ _ _ _, Below.refl _ _⟩
  case round =>
    obtain ⟨i, hi, rfl, hown, hbel⟩ := hrel
    by_cases hlt : i < m
    · have hlt' : i < ms.length := by rw [← unhide HL]; exact hlt
      obtain ⟨b, o, rfl, hb, hc⟩ := (hr.below (hbel.mono hB)).at i _ (NI_at ms i hlt')
      have hx := hms _ (List.getElem_mem hlt')
      have HS := hide (lows_snoc (q := q) hlt')
      have HST := hide (And.intro hown hbel)
      have hiq : i * q ≤ 1000 * 1000 := Nat.mul_le_mul (by omega) (by omega)
      generalize ms[i] = x at *
      clear hown hbel
      go_wp2
      go_loopw [8, 10, 11] (fun ou pp kk wr => ∃ (k y : Nat) (done : List Bool), k ≤ q ∧ y < 1000 ∧ kk = .int .i64 k ∧ pp = .int .i64 y ∧ wr.ownsRow w.heap.size 4 1 ou (i * q + k) (Bo done) ∧ Sp.lows q (ms.take (i + 1)) = done ++ Sp.low y (q - k) ∧ Below w.heap.size w wr) (fun _ _ kk _ => q - (intOf kk).toNat)
      case atStart => exact ⟨0, x, _, Nat.zero_le _, by omega, rfl, rfl, (unhide HST).1, by rw [unhide HS]; rfl, (unhide HST).2⟩
      case round =>
        obtain ⟨k, y, done, hk, hy, rfl, rfl, hown, heq, hbel⟩ := hrel
        clear HST HS hc
        have hsize := hbel.size
        by_cases hkq : k < q
        · have HEQ : Hid (Sp.lows q (ms.take (i + 1)) = (done ++ [y % 2 == 1]) ++ Sp.low (y / 2) (q - (k + 1))) := by
            rw [Hid, heq, show q - k = q - (k + 1) + 1 from by omega, List.append_assoc]
            rfl
          have HST := hide (And.intro hown hbel)
          have hob : ((y : Int) % 2 == 1) = (y % 2 == 1) := odd_cast y
          have hroom : i * q + k ≤ 10000000000000 := by omega
          clear hown hbel heq
          go_wp2_with (at_builtin; refine wpList_app _ rfl (.tmp 36) (.tmp 40) 80 rfl w.heap.size 4 (.bool false) 1 Tryz.underlying80 Ty.bool rfl _ _ _ rfl ((unhide HST).1.alloc _) _ _ rfl ⟨_, Rd.one wr (.bool (y % 2 == 1)) 4⟩ (one_bool _) (room1 hroom) (room1b hroom) (by simp; omega) ?_; intro v1 w1 hown1 hg1 hb1; have R1 := (app_below (unhide HST).2 (Nat.le_refl _) (unhide HST).1 hg1).1; have HR1 := hide (And.intro hown1 R1); clear R1 hown1 hg1 hb1)
          go_roundw
          case rel => exact ⟨k + 1, y / 2, done ++ [y % 2 == 1], by omega, by omega, by go_num, by go_num, by rw [Bo_app]; exact (unhide HR1).1, HEQ.out, (unhide HR1).2⟩
          case measure => simp [intOf]; omega
        · have he : k = q := by omega
          subst he
          have HX : Hid (Sp.lows k (ms.take (i + 1)) = done) := by rw [Hid, heq]; simp [Sp.low]
          have HST := hide (And.intro hown hbel)
          clear hown hbel heq
          go_wp2
          go_roundw
          case rel => exact ⟨i + 1, by omega, by go_num, by rw [HX.out, Nat.succ_mul]; exact (unhide HST).1, (unhide HST).2⟩
          case measure => simp [intOf]; omega
    · have he : i = m := by omega
      subst he
      have hiq : i * q ≤ 1000 * 1000 := Nat.mul_le_mul (by omega) (by omega)
      have htk : ms.take i = ms := List.take_of_length_le (by rw [← unhide HL]; exact Nat.le_refl _)
      rw [htk] at hown
      have hsize := hbel.size
      have HST := hide (And.intro hown hbel)
      clear hown hbel htk
      go_wp2_with (at_make; (refine wpList_make_full _ rfl (.tmp 49) (.tmp 49) 80 rfl w.heap.size 4 i0 (.bool false) 1 Tryz.underlying80 (unhide HI).1 (unhide HI).2.1 (unhide HI).2.2 .i64 .i64 _ _ h rfl rfl (by rw [unhide HH]; simp) (by rw [unhide HH]; simp) (by rw [Hb.out]; omega) (by unfold maxLen; omega) hsize ?_); intro w1 hown1 hg1)
      rw [made_false] at hown1
      have hb1 := (unhide HST).2.grown hg1 hsize (by intro k hk; cases hk)
      have ho1 := own_kept (unhide HST).1 hg1 (by intro k hk; cases hk)
      have hap : Ap u8 (.slice (some ⟨wr.heap.size, 0, none⟩) h h) := by
        intro k hk he
        have := ((unhide HST).1.lt k hk).2
        simp [Value.ownBlock] at he
        omega
      have H1 : Hid (w1.ownsRow w.heap.size 4 1 (.slice (some ⟨wr.heap.size, 0, none⟩) h h) h (Bo (Sp.highTo n q ms 0)) ∧ w1.ownsRow w.heap.size 4 1 u8 (i * q) (Bo (Sp.lows q ms)) ∧ Below w.heap.size w w1) := by
        refine ⟨?_, ho1, hb1⟩
        have e : Sp.highTo n q ms 0 = List.replicate h false := by rw [unhide HH, HTQ.out, unhide HL]; rfl
        rw [e]
        exact hown1
      clear hown1 hg1 hb1 ho1 HST
      generalize wr.heap.size = H at *
      go_loopw [13] (fun jj wq => ∃ j : Nat, j ≤ i ∧ jj = .int .i64 j ∧ wq.ownsRow w.heap.size 4 1 (.slice (some ⟨H, 0, none⟩) h h) h (Bo (Sp.highTo n q ms j)) ∧ wq.ownsRow w.heap.size 4 1 u8 (i * q) (Bo (Sp.lows q ms)) ∧ Below w.heap.size w wq) (fun jj _ => i - (intOf jj).toNat)
      case atStart => exact ⟨0, Nat.zero_le _, rfl, (unhide H1).1, (unhide H1).2.1, (unhide H1).2.2⟩
      case round =>
        obtain ⟨j, hj, rfl, hown, hown2, hbel⟩ := hrel
        clear H1
        by_cases hlt : j < i
        · have hlt' : j < ms.length := by rw [← unhide HL]; exact hlt
          obtain ⟨b, o, rfl, hb, hc⟩ := (hr.below (hbel.mono hB)).at j _ (NI_at ms j hlt')
          have hx := hms _ (List.getElem_mem hlt')
          have hxt : ms[j] / tw ≤ n / tw := Nat.div_le_div_right (by omega)
          have hxi : ((ms[j] : Nat) : Int) / (tw : Int) = ((ms[j] / tw : Nat) : Int) := by simp
          have hxh : ms[j] / tw + j < h := by rw [unhide HH]; omega
          have HS : Hid (Sp.highTo n q ms (j + 1) = (Sp.highTo n q ms j).set (ms[j] / tw + j) true) := by
            rw [HTQ.out]
            simp [Hid, Sp.highTo, hlt']
          have hlen : (Sp.highTo n q ms j).length = h := by rw [Sp.highTo_len, unhide HH, HTQ.out, unhide HL]
          have hcell := hown.cellAt (ms[j] / tw + j) (by omega)
          rw [Bo_at _ _ (by omega)] at hcell
          have hfr := hown.frozenAt (ms[j] / tw + j)
          have HST := hide (And.intro hown (And.intro hown2 hbel))
          generalize (Sp.highTo n q ms j)[ms[j] / tw + j] = old at *
          generalize hz : ms[j] / tw = z at *
          generalize ms[j] = x at *
          have hzz : (0 : Int) ≤ (z : Int) := by omega
          clear hown hown2 hbel hlen hz
          go_wp2
          go_roundw
          case rel =>
            have st := (unhide HST).1.stored (z + j) (.bool true)
            refine ⟨j + 1, by omega, by go_num, ?_, ?_, (unhide HST).2.2.setCell hsize _⟩
            · rw [HS.out, Bo_set]
              exact st.1
            · refine own_kept (unhide HST).2.1 st.2 ?_
              intro k hk he
              exact hap k he hk
          case measure => simp [intOf]; omega
        · have he : j = i := by omega
          subst he
          have hsz := hbel.size
          have hlh : (Bo (Sp.highTo n q ms j)).length = h := by rw [Bo_len, Sp.highTo_len, unhide HH, HTQ.out, unhide HL]
          have HF : Hid (Sp.marks n ms = Sp.lows q ms ++ Sp.highTo n q ms j) := by rw [Hid, HE.out, unhide HL]; rfl
          have HFL : Hid ((Sp.marks n ms).length = j * q + (Bo (Sp.highTo n q ms j)).length) := by
            rw [Hid, HF.out, List.length_append, Bo_len, Sp.lows_len, unhide HL]
          have HLH := hide hlh
          have HST := hide (And.intro hown (And.intro hown2 hbel))
          clear hown hown2 hbel hlh
          go_wp2_with (at_builtin; refine wpList_app _ rfl (.tmp 66) (.tmp 67) 80 rfl w.heap.size 4 (.bool false) 1 Tryz.underlying80 Ty.bool rfl u8 _ _ rfl (unhide HST).2.1 _ _ rfl ⟨_, Rd.owned (unhide HST).1⟩ (one_Bo _) (by rw [unhide HLH]; unfold maxLen; omega) (by rw [unhide HLH]; omega) hsz ?_; intro v1 w2 hown1 hg1 hb1; have R1 := (apps_below (unhide HST).2.2 (Nat.le_refl _) (unhide HST).2.1 hg1).1; have HR1 := hide (And.intro hown1 R1); clear R1 hown1 hg1 hb1)
          go_ret
          exact ⟨_, rfl, by rw [HFL.out, HF.out, Bo_app]; exact (unhide HR1).1, (unhide HR1).2⟩
end Rf
end Go.Proofs.YtolkjadklbchfaaGreatDoor
/- Walks: Encode of the document. -/
open Go Go.RowKit
namespace Go.Proofs.YtolkjadklbchfaaGreatDoor
namespace Rf
open Mem

/-- What a call gives: a row of bytes or bools of its own; nothing old has turned. -/
def Gives (w : World) (t : TypeId) (xs : List Value) (e : Ending) (w' : World) : Prop := ∃ v, e = .returned v ∧ w'.ownsRow w.heap.size t 1 v xs.length xs ∧ Below w.heap.size w w'

theorem sealed_v {y : Value} {B : Nat} {xs : List Nat} {w : World} (hr : Rd B w y (By xs)) (hx : ∀ x ∈ xs, x < 256) (hn : xs.length ≤ 10000000000000) : Calls Tryz.prog 27 #[y] w (Gives w 5 (By (Sp.sealed xs))) := by
  obtain ⟨p, c, rfl, _⟩ := hr.form
  refine (sealed_any p B _ c xs w hr hx (by rw [By_len]; exact hn)).mono ?_
  rintro e w' ⟨v, rfl, h⟩
  exact ⟨v, rfl, by rw [By_len]; exact h.1, h.2⟩
theorem bits_v {y : Value} {B : Nat} {l : List Bool} {w : World} (hr : Rd B w y (Bo l)) (hB : B ≤ w.heap.size) (hn : l.length ≤ 1000000000000) : Calls Tryz.prog 29 #[y] w (Gives w 5 (By (Sp.pack l))) := by
  obtain ⟨p, c, rfl, _⟩ := hr.form
  refine (bits_any p B _ c l w hr hB (by rw [Bo_len]; exact hn)).mono ?_
  rintro e w' ⟨v, rfl, h⟩
  exact ⟨v, rfl, by rw [By_len]; exact h.1, h.2⟩
theorem layers_v {p : Option Addr} {B n c : Nat} {vs : List Nat} {w : World} (hr : Rd B w (.slice p n c) (U64 vs)) (hB : B ≤ w.heap.size) (hv : ∀ x ∈ vs, x < 18446744073709551616) (hn : n ≤ 1000000000) : Calls Tryz.prog 30 #[.slice p n c] w (Gives w 4 (Bo (Sp.layers vs))) := by
  refine (layers_any p B n c vs w hr hB hv hn).mono ?_
  rintro e w' ⟨v, rfl, h⟩
  exact ⟨v, rfl, by rw [Bo_len]; exact h.1, h.2⟩
theorem brackets_v {p : Option Addr} {B n c : Nat} {vs : List Nat} {w : World} (hr : Rd B w (.slice p n c) (U64 vs)) (hB : B ≤ w.heap.size) (hn : n ≤ 1000000000) : Calls Tryz.prog 31 #[.slice p n c] w (Gives w 4 (Bo (Sp.brackets vs))) := by
  refine (brackets_any p B n c vs w hr hB hn).mono ?_
  rintro e w' ⟨v, rfl, h⟩
  exact ⟨v, rfl, by rw [Bo_len]; exact h.1, h.2⟩
theorem marks_v {p : Option Addr} {B n m c : Nat} {ms : List Nat} {w : World} (hr : Rd B w (.slice p m c) (I64 (NI ms))) (hB : B ≤ w.heap.size) (hms : ∀ x ∈ ms, x < n) (hn : n ≤ 1000) (hm : m ≤ 1000) : Calls Tryz.prog 32 #[.int .i64 n, .slice p m c] w (Gives w 4 (Bo (Sp.marks n ms))) := by
  refine (marks_any p B n m c ms w hr hB hms hn hm).mono ?_
  rintro e w' ⟨v, rfl, h⟩
  exact ⟨v, rfl, by rw [Bo_len]; exact h.1, h.2⟩

theorem layers_small {vs : List Nat} (hv : ∀ x ∈ vs, x < 18446744073709551616) (hn : vs.length ≤ 1000) : (Sp.layers vs).length ≤ 64000 := by
  unfold Sp.layers
  rw [Sp.lay_len]
  exact Nat.mul_le_mul (Sp.widthOf_le vs hv) hn
theorem brackets_small {vs : List Nat} (hn : vs.length ≤ 1000) : (Sp.brackets vs).length ≤ 2000 := by
  unfold Sp.brackets
  rw [Sp.brk_len]
  simp
  omega
theorem marks_small {n : Nat} {ms : List Nat} (hn : n ≤ 1000) (hm : ms.length ≤ 1000) : (Sp.marks n ms).length ≤ 1002001 := by
  unfold Sp.marks Sp.high
  rw [List.length_append, Sp.lows_len, Sp.highTo_len]
  have h1 : ms.length * Sp.pow n ms.length ≤ 1000 * 1000 := Nat.mul_le_mul hm (Nat.le_trans (pow_le _ _) hn)
  have h2 : n / 2 ^ Sp.pow n ms.length ≤ n := Nat.div_le_self _ _
  omega

theorem head_rd (w : World) (wd n m : Nat) : Rd (w.heap.size + 1) (w.alloc (.cells #[Value.int .u8 83, .int .u8 84, .int .u8 82, .int .u8 65, .int .u8 1, .int .u8 (wd : Int), .int .u8 ((n : Int) % 256), .int .u8 ((n : Int) / 256), .int .u8 ((m : Int) % 256), .int .u8 ((m : Int) / 256)] 5))
    (.slice (some ⟨w.heap.size, 0, none⟩) 10 10) (By (Sp.head wd n m)) := by
  have h := Rd.lit w (By (Sp.head wd n m)) 5
  simpa [By, Sp.head] using h
theorem head_lt {wd n m : Nat} (hw : wd ≤ 64) (hn : n ≤ 1000) (hm : m ≤ 1000) : ∀ x ∈ Sp.head wd n m, x < 256 := by
  intro x hx
  simp [Sp.head] at hx
  omega

set_option maxHeartbeats 1000000 in
theorem encode_any (pv : Option Addr) (n cv : Nat) (vs : List Nat) (pm : Option Addr) (m cm : Nat) (ms : List Nat) (B : Nat) (w : World) (hrv : Rd B w (.slice pv n cv) (U64 vs)) (hrm : Rd B w (.slice pm m cm) (I64 (NI ms))) (hB : B ≤ w.heap.size)
    (hv : ∀ x ∈ vs, x < 18446744073709551616) (hms : ∀ x ∈ ms, x < n) (hn : n ≤ 1000) (hm : m ≤ 1000) :
    Calls Tryz.prog 16 #[.slice pv n cv, .slice pm m cm] w (Gives w 5 (By (Sp.encode vs ms))) := by
  have hwid := width_any pv B n cv vs w hrv hv (by omega)
  have HW := hide hwid
  have h64 := Sp.widthOf_le vs hv
  obtain ⟨hl, hlc⟩ := hrv.len
  rw [U64_len] at hl
  obtain ⟨hl2, hlc2⟩ := hrm.len
  rw [NI_len] at hl2
  have HL := hide hl
  have HL2 := hide hl2
  have HE : Hid (Sp.encode vs ms = Sp.sealed (Sp.head (Sp.widthOf vs) n m) ++ (Sp.sealed (Sp.pack (Sp.layers vs)) ++ (Sp.sealed (Sp.pack (Sp.brackets vs)) ++ Sp.sealed (Sp.pack (Sp.marks n ms))))) := by rw [hl, hl2]; rfl
  have s1 := layers_small hv (by omega : vs.length ≤ 1000)
  have s2 := brackets_small (by omega : vs.length ≤ 1000)
  have s3 := marks_small hn (by omega : ms.length ≤ 1000)
  clear hwid hl hl2
  generalize Sp.widthOf vs = wd at *
  go_enter Tryz.func16, Tryz.ntmps16
  go_wp2_with (go_at_call 28; refine at_same (unhide HW) ?_)
  refine (sealed_v (head_rd w wd n m) (head_lt h64 hn hm) (by simp [Sp.head])).mono ?_
  rintro e w1 ⟨v1, rfl, o1, b1⟩
  have c1 : Below w.heap.size w w1 := ((Below.refl _ _).alloc (Nat.le_refl _) _).trans (b1.mono (by simp))
  have C1 := hide c1
  have O1 := hide (own_base o1 (base' := w.heap.size) (by simp))
  clear b1 o1 c1 HW
  go_wp2_with fail
  refine (layers_v (hrv.below ((unhide C1).mono hB)) (Nat.le_trans hB (unhide C1).size) hv (by omega)).mono ?_
  rintro e w2 ⟨v2, rfl, o2, b2⟩
  have O2 := hide o2
  have B2 := hide b2
  clear b2 o2
  go_wp2_with fail
  refine (bits_v (Rd.owned (unhide O2)) (Nat.le_refl _) (by omega)).mono ?_
  rintro e w3 ⟨v3, rfl, o3, b3⟩
  have O3 := hide o3
  have B3 := hide ((unhide B2).trans (b3.mono (unhide B2).size))
  clear b3 o3 O2 B2
  go_wp2_with fail
  refine (sealed_v (Rd.owned (unhide O3)) (Sp.pack_lt _) (by rw [Sp.pack_len]; omega)).mono ?_
  rintro e w4 ⟨v4, rfl, o4, b4⟩
  have B4 := hide ((unhide B3).trans (b4.mono (unhide B3).size))
  have C4 := hide ((unhide C1).trans ((unhide B4).mono (unhide C1).size))
  have O4 := hide (own_base o4 (base' := w.heap.size) (Nat.le_trans (unhide C1).size (unhide B3).size))
  have A4 := hide (ap_of (fun k hk => ((unhide O1).lt k hk).2) o4 (unhide B3).size)
  have O1b := hide (own_later (unhide O1) (unhide B4))
  clear b4 o4 O3 B3 O1 C1 B4
  go_wp2_with fail
  refine (brackets_v (hrv.below ((unhide C4).mono hB)) (Nat.le_trans hB (unhide C4).size) (by omega)).mono ?_
  rintro e w5 ⟨v5, rfl, o5, b5⟩
  have O5 := hide o5
  have B5 := hide b5
  clear b5 o5
  go_wp2_with fail
  refine (bits_v (Rd.owned (unhide O5)) (Nat.le_refl _) (by omega)).mono ?_
  rintro e w6 ⟨v6, rfl, o6, b6⟩
  have O6 := hide o6
  have B6 := hide ((unhide B5).trans (b6.mono (unhide B5).size))
  clear b6 o6 O5 B5
  go_wp2_with fail
  refine (sealed_v (Rd.owned (unhide O6)) (Sp.pack_lt _) (by rw [Sp.pack_len]; omega)).mono ?_
  rintro e w7 ⟨v7, rfl, o7, b7⟩
  have B7 := hide ((unhide B6).trans (b7.mono (unhide B6).size))
  have C7 := hide ((unhide C4).trans ((unhide B7).mono (unhide C4).size))
  have O7 := hide (own_base o7 (base' := w.heap.size) (Nat.le_trans (unhide C4).size (unhide B6).size))
  have A7 := hide (ap_of (fun k hk => ((unhide O1b).lt k hk).2) o7 (unhide B6).size)
  have O1c := hide (own_later (unhide O1b) (unhide B7))
  have O4c := hide (own_later (unhide O4) (unhide B7))
  clear b7 o7 O6 B6 O1b O4 C4 B7
  go_wp2_with fail
  refine (marks_v (hrm.below ((unhide C7).mono hB)) (Nat.le_trans hB (unhide C7).size) hms hn hm).mono ?_
  rintro e w8 ⟨v8, rfl, o8, b8⟩
  have O8 := hide o8
  have B8 := hide b8
  clear b8 o8
  go_wp2_with fail
  refine (bits_v (Rd.owned (unhide O8)) (Nat.le_refl _) (by omega)).mono ?_
  rintro e w9 ⟨v9, rfl, o9, b9⟩
  have O9 := hide o9
  have B9 := hide ((unhide B8).trans (b9.mono (unhide B8).size))
  clear b9 o9 O8 B8
  go_wp2_with fail
  refine (sealed_v (Rd.owned (unhide O9)) (Sp.pack_lt _) (by rw [Sp.pack_len]; omega)).mono ?_
  rintro e w10 ⟨v10, rfl, o10, b10⟩
  have B10 := hide ((unhide B9).trans (b10.mono (unhide B9).size))
  have C10 := hide ((unhide C7).trans ((unhide B10).mono (unhide C7).size))
  have O10 := hide (own_base o10 (base' := w.heap.size) (Nat.le_trans (unhide C7).size (unhide B9).size))
  have A10 := hide (ap_of (fun k hk => ((unhide O1c).lt k hk).2) o10 (unhide B9).size)
  have O1d := hide (own_later (unhide O1c) (unhide B10))
  have O4d := hide (own_later (unhide O4c) (unhide B10))
  have O7d := hide (own_later (unhide O7) (unhide B10))
  clear b10 o10 O9 B9 O1c O4c O7 C7 B10
  have l1 : (By (Sp.sealed (Sp.head wd n m))).length = 14 := by rw [By_len, Sp.sealed_len]; rfl
  have l4 : (By (Sp.sealed (Sp.pack (Sp.layers vs)))).length ≤ 100000 := by rw [By_len, Sp.sealed_len, Sp.pack_len]; omega
  have l7 : (By (Sp.sealed (Sp.pack (Sp.brackets vs)))).length ≤ 100000 := by rw [By_len, Sp.sealed_len, Sp.pack_len]; omega
  have l10 : (By (Sp.sealed (Sp.pack (Sp.marks n ms)))).length ≤ 10000000 := by rw [By_len, Sp.sealed_len, Sp.pack_len]; omega
  have L := hide (And.intro l1 (And.intro l4 (And.intro l7 l10)))
  have HF : Hid (By (Sp.encode vs ms) = By (Sp.sealed (Sp.head wd n m)) ++ By (Sp.sealed (Sp.pack (Sp.layers vs))) ++ By (Sp.sealed (Sp.pack (Sp.brackets vs))) ++ By (Sp.sealed (Sp.pack (Sp.marks n ms)))) := by
    rw [Hid, HE.out, By_app, By_app, By_app, List.append_assoc, List.append_assoc]
  clear l1 l4 l7 l10 s1 s2 s3
  go_wp2_with (first
    | (at_builtin; refine wpList_app _ rfl (.tmp 45) (.tmp 46) 49 rfl w.heap.size 5 (.int .u8 0) 1 Tryz.underlying49 Ty.u8 rfl v1 _ _ rfl (unhide O1d) _ _ rfl ⟨_, Rd.owned (unhide O4d)⟩ (one_By _) (by have := unhide L; unfold maxLen; omega) (by have := unhide L; omega) (unhide C10).size ?_; intro x1 w11 h1 g1 t1; have P7 := hide (apps_own (unhide O7d) (unhide A7).symm g1 t1); have P10 := hide (apps_own (unhide O10) (unhide A10).symm g1 t1); have C11 := hide (apps_below (unhide C10) (Nat.le_refl _) (unhide O1d) g1).1; have X1 := hide h1; clear h1 g1 t1)
    | (at_builtin; refine wpList_app _ rfl (.tmp 48) (.tmp 49) 49 rfl w.heap.size 5 (.int .u8 0) 1 Tryz.underlying49 Ty.u8 rfl x1 _ _ rfl (unhide X1) _ _ rfl ⟨_, Rd.owned (unhide P7).1⟩ (one_By _) (by have := unhide L; unfold maxLen; omega) (by have := unhide L; omega) (unhide C11).size ?_; intro x2 w12 h2 g2 t2; have Q10 := hide (apps_own (unhide P10).1 (unhide P10).2 g2 t2); have C12 := hide (apps_below (unhide C11) (Nat.le_refl _) (unhide X1) g2).1; have X2 := hide h2; clear h2 g2 t2)
    | (at_builtin; refine wpList_app _ rfl (.tmp 51) (.tmp 52) 49 rfl w.heap.size 5 (.int .u8 0) 1 Tryz.underlying49 Ty.u8 rfl x2 _ _ rfl (unhide X2) _ _ rfl ⟨_, Rd.owned (unhide Q10).1⟩ (one_By _) (by have := unhide L; unfold maxLen; omega) (by have := unhide L; omega) (unhide C12).size ?_; intro x3 w13 h3 g3 t3; have C13 := hide (apps_below (unhide C12) (Nat.le_refl _) (unhide X2) g3).1; have X3 := hide h3; clear h3 g3 t3))
  go_ret
  exact ⟨x3, rfl, by rw [HF.out, List.length_append, List.length_append, List.length_append]; exact unhide X3, unhide C13⟩
end Rf
end Go.Proofs.YtolkjadklbchfaaGreatDoor
