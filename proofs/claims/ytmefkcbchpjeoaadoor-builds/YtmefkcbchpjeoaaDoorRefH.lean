/- Walks: Encode of the document. -/
import Derived.Test.YtmefkcbchpjeoaaDoorRefB
import Derived.Test.YtmefkcbchpjeoaaDoorRefD
import Derived.Test.YtmefkcbchpjeoaaDoorRefE
import Derived.Test.YtmefkcbchpjeoaaDoorRefF
import Derived.Test.YtmefkcbchpjeoaaDoorRefG
open Go Go.RowKit
namespace Go.Proofs.YtmefkcbchpjeoaaDoor
namespace Rf
open Mem

/-- What a call gives: a row of bytes or bools of its own; nothing old has turned. -/
def Gives (w : World) (t : TypeId) (xs : List Value) (e : Ending) (w' : World) : Prop := ∃ v, e = .returned v ∧ w'.ownsRow w.heap.size t 1 v xs.length xs ∧ Below w.heap.size w w'

theorem sealed_v {y : Value} {B : Nat} {xs : List Nat} {w : World} (hr : Rd B w y (By xs)) (hx : ∀ x ∈ xs, x < 256) (hn : xs.length ≤ 10000000000000) : Calls Tryd.prog 26 #[y] w (Gives w 5 (By (Sp.sealed xs))) := by
  obtain ⟨p, c, rfl, _⟩ := hr.form
  refine (sealed_any p B _ c xs w hr hx (by rw [By_len]; exact hn)).mono ?_
  rintro e w' ⟨v, rfl, h⟩
  exact ⟨v, rfl, by rw [By_len]; exact h.1, h.2⟩
theorem bits_v {y : Value} {B : Nat} {l : List Bool} {w : World} (hr : Rd B w y (Bo l)) (hB : B ≤ w.heap.size) (hn : l.length ≤ 1000000000000) : Calls Tryd.prog 28 #[y] w (Gives w 5 (By (Sp.pack l))) := by
  obtain ⟨p, c, rfl, _⟩ := hr.form
  refine (bits_any p B _ c l w hr hB (by rw [Bo_len]; exact hn)).mono ?_
  rintro e w' ⟨v, rfl, h⟩
  exact ⟨v, rfl, by rw [By_len]; exact h.1, h.2⟩
theorem layers_v {p : Option Addr} {B n c : Nat} {vs : List Nat} {w : World} (hr : Rd B w (.slice p n c) (U64 vs)) (hB : B ≤ w.heap.size) (hv : ∀ x ∈ vs, x < 18446744073709551616) (hn : n ≤ 1000000000) : Calls Tryd.prog 29 #[.slice p n c] w (Gives w 4 (Bo (Sp.layers vs))) := by
  refine (layers_any p B n c vs w hr hB hv hn).mono ?_
  rintro e w' ⟨v, rfl, h⟩
  exact ⟨v, rfl, by rw [Bo_len]; exact h.1, h.2⟩
theorem brackets_v {p : Option Addr} {B n c : Nat} {vs : List Nat} {w : World} (hr : Rd B w (.slice p n c) (U64 vs)) (hB : B ≤ w.heap.size) (hn : n ≤ 1000000000) : Calls Tryd.prog 30 #[.slice p n c] w (Gives w 4 (Bo (Sp.brackets vs))) := by
  refine (brackets_any p B n c vs w hr hB hn).mono ?_
  rintro e w' ⟨v, rfl, h⟩
  exact ⟨v, rfl, by rw [Bo_len]; exact h.1, h.2⟩
theorem marks_v {p : Option Addr} {B n m c : Nat} {ms : List Nat} {w : World} (hr : Rd B w (.slice p m c) (I64 (NI ms))) (hB : B ≤ w.heap.size) (hms : ∀ x ∈ ms, x < n) (hn : n ≤ 1000) (hm : m ≤ 1000) : Calls Tryd.prog 31 #[.int .i64 n, .slice p m c] w (Gives w 4 (Bo (Sp.marks n ms))) := by
  refine (marks_any p B n m c ms w hr hB hms hn hm).mono ?_
  rintro e w' ⟨v, rfl, h⟩
  exact ⟨v, rfl, by rw [Bo_len]; exact h.1, h.2⟩

theorem layers_small {vs : List Nat} (hv : ∀ x ∈ vs, x < 18446744073709551616) (hn : vs.length ≤ 1000) : (Sp.layers vs).length ≤ 64000 := by
  unfold Sp.layers
  rw [Sp.lay_len]
  exact Nat.mul_le_mul (Sp.widthOf_le vs hv) hn
theorem brackets_small {vs : List Nat} (hn : vs.length ≤ 1000) : (Sp.brackets vs).length ≤ 2000 := by
  unfold Sp.brackets
  rw [Sp.brk_len]
  simp
  omega
theorem marks_small {n : Nat} {ms : List Nat} (hn : n ≤ 1000) (hm : ms.length ≤ 1000) : (Sp.marks n ms).length ≤ 1002001 := by
  unfold Sp.marks Sp.high
  rw [List.length_append, Sp.lows_len, Sp.highTo_len]
  have h1 : ms.length * Sp.pow n ms.length ≤ 1000 * 1000 := Nat.mul_le_mul hm (Nat.le_trans (pow_le _ _) hn)
  have h2 : n / 2 ^ Sp.pow n ms.length ≤ n := Nat.div_le_self _ _
  omega

theorem head_rd (w : World) (wd n m : Nat) : Rd (w.heap.size + 1) (w.alloc (.cells #[Value.int .u8 83, .int .u8 84, .int .u8 82, .int .u8 65, .int .u8 1, .int .u8 (wd : Int), .int .u8 ((n : Int) % 256), .int .u8 ((n : Int) / 256), .int .u8 ((m : Int) % 256), .int .u8 ((m : Int) / 256)] 5))
    (.slice (some ⟨w.heap.size, 0, none⟩) 10 10) (By (Sp.head wd n m)) := by
  have h := Rd.lit w (By (Sp.head wd n m)) 5
  simpa [By, Sp.head] using h
theorem head_lt {wd n m : Nat} (hw : wd ≤ 64) (hn : n ≤ 1000) (hm : m ≤ 1000) : ∀ x ∈ Sp.head wd n m, x < 256 := by
  intro x hx
  simp [Sp.head] at hx
  omega

set_option maxHeartbeats 1000000 in
theorem encode_any (pv : Option Addr) (n cv : Nat) (vs : List Nat) (pm : Option Addr) (m cm : Nat) (ms : List Nat) (B : Nat) (w : World) (hrv : Rd B w (.slice pv n cv) (U64 vs)) (hrm : Rd B w (.slice pm m cm) (I64 (NI ms))) (hB : B ≤ w.heap.size)
    (hv : ∀ x ∈ vs, x < 18446744073709551616) (hms : ∀ x ∈ ms, x < n) (hn : n ≤ 1000) (hm : m ≤ 1000) :
    Calls Tryd.prog 14 #[.slice pv n cv, .slice pm m cm] w (Gives w 5 (By (Sp.encode vs ms))) := by
  have hwid := width_any pv B n cv vs w hrv hv (by omega)
  have HW := hide hwid
  have h64 := Sp.widthOf_le vs hv
  obtain ⟨hl, hlc⟩ := hrv.len
  rw [U64_len] at hl
  obtain ⟨hl2, hlc2⟩ := hrm.len
  rw [NI_len] at hl2
  have HL := hide hl
  have HL2 := hide hl2
  have HE : Hid (Sp.encode vs ms = Sp.sealed (Sp.head (Sp.widthOf vs) n m) ++ (Sp.sealed (Sp.pack (Sp.layers vs)) ++ (Sp.sealed (Sp.pack (Sp.brackets vs)) ++ Sp.sealed (Sp.pack (Sp.marks n ms))))) := by rw [hl, hl2]; rfl
  have s1 := layers_small hv (by omega : vs.length ≤ 1000)
  have s2 := brackets_small (by omega : vs.length ≤ 1000)
  have s3 := marks_small hn (by omega : ms.length ≤ 1000)
  clear hwid hl hl2
  generalize Sp.widthOf vs = wd at *
  go_enter Tryd.func14, Tryd.ntmps14
  go_wp2_with (go_at_call 27; refine at_same (unhide HW) ?_)
  refine (sealed_v (head_rd w wd n m) (head_lt h64 hn hm) (by simp [Sp.head])).mono ?_
  rintro e w1 ⟨v1, rfl, o1, b1⟩
  have c1 : Below w.heap.size w w1 := ((Below.refl _ _).alloc (Nat.le_refl _) _).trans (b1.mono (by simp))
  have C1 := hide c1
  have O1 := hide (own_base o1 (base' := w.heap.size) (by simp))
  clear b1 o1 c1 HW
  go_wp2_with fail
  refine (layers_v (hrv.below ((unhide C1).mono hB)) (Nat.le_trans hB (unhide C1).size) hv (by omega)).mono ?_
  rintro e w2 ⟨v2, rfl, o2, b2⟩
  have O2 := hide o2
  have B2 := hide b2
  clear b2 o2
  go_wp2_with fail
  refine (bits_v (Rd.owned (unhide O2)) (Nat.le_refl _) (by omega)).mono ?_
  rintro e w3 ⟨v3, rfl, o3, b3⟩
  have O3 := hide o3
  have B3 := hide ((unhide B2).trans (b3.mono (unhide B2).size))
  clear b3 o3 O2 B2
  go_wp2_with fail
  refine (sealed_v (Rd.owned (unhide O3)) (Sp.pack_lt _) (by rw [Sp.pack_len]; omega)).mono ?_
  rintro e w4 ⟨v4, rfl, o4, b4⟩
  have B4 := hide ((unhide B3).trans (b4.mono (unhide B3).size))
  have C4 := hide ((unhide C1).trans ((unhide B4).mono (unhide C1).size))
  have O4 := hide (own_base o4 (base' := w.heap.size) (Nat.le_trans (unhide C1).size (unhide B3).size))
  have A4 := hide (ap_of (fun k hk => ((unhide O1).lt k hk).2) o4 (unhide B3).size)
  have O1b := hide (own_later (unhide O1) (unhide B4))
  clear b4 o4 O3 B3 O1 C1 B4
  go_wp2_with fail
  refine (brackets_v (hrv.below ((unhide C4).mono hB)) (Nat.le_trans hB (unhide C4).size) (by omega)).mono ?_
  rintro e w5 ⟨v5, rfl, o5, b5⟩
  have O5 := hide o5
  have B5 := hide b5
  clear b5 o5
  go_wp2_with fail
  refine (bits_v (Rd.owned (unhide O5)) (Nat.le_refl _) (by omega)).mono ?_
  rintro e w6 ⟨v6, rfl, o6, b6⟩
  have O6 := hide o6
  have B6 := hide ((unhide B5).trans (b6.mono (unhide B5).size))
  clear b6 o6 O5 B5
  go_wp2_with fail
  refine (sealed_v (Rd.owned (unhide O6)) (Sp.pack_lt _) (by rw [Sp.pack_len]; omega)).mono ?_
  rintro e w7 ⟨v7, rfl, o7, b7⟩
  have B7 := hide ((unhide B6).trans (b7.mono (unhide B6).size))
  have C7 := hide ((unhide C4).trans ((unhide B7).mono (unhide C4).size))
  have O7 := hide (own_base o7 (base' := w.heap.size) (Nat.le_trans (unhide C4).size (unhide B6).size))
  have A7 := hide (ap_of (fun k hk => ((unhide O1b).lt k hk).2) o7 (unhide B6).size)
  have O1c := hide (own_later (unhide O1b) (unhide B7))
  have O4c := hide (own_later (unhide O4) (unhide B7))
  clear b7 o7 O6 B6 O1b O4 C4 B7
  go_wp2_with fail
  refine (marks_v (hrm.below ((unhide C7).mono hB)) (Nat.le_trans hB (unhide C7).size) hms hn hm).mono ?_
  rintro e w8 ⟨v8, rfl, o8, b8⟩
  have O8 := hide o8
  have B8 := hide b8
  clear b8 o8
  go_wp2_with fail
  refine (bits_v (Rd.owned (unhide O8)) (Nat.le_refl _) (by omega)).mono ?_
  rintro e w9 ⟨v9, rfl, o9, b9⟩
  have O9 := hide o9
  have B9 := hide ((unhide B8).trans (b9.mono (unhide B8).size))
  clear b9 o9 O8 B8
  go_wp2_with fail
  refine (sealed_v (Rd.owned (unhide O9)) (Sp.pack_lt _) (by rw [Sp.pack_len]; omega)).mono ?_
  rintro e w10 ⟨v10, rfl, o10, b10⟩
  have B10 := hide ((unhide B9).trans (b10.mono (unhide B9).size))
  have C10 := hide ((unhide C7).trans ((unhide B10).mono (unhide C7).size))
  have O10 := hide (own_base o10 (base' := w.heap.size) (Nat.le_trans (unhide C7).size (unhide B9).size))
  have A10 := hide (ap_of (fun k hk => ((unhide O1c).lt k hk).2) o10 (unhide B9).size)
  have O1d := hide (own_later (unhide O1c) (unhide B10))
  have O4d := hide (own_later (unhide O4c) (unhide B10))
  have O7d := hide (own_later (unhide O7) (unhide B10))
  clear b10 o10 O9 B9 O1c O4c O7 C7 B10
  have l1 : (By (Sp.sealed (Sp.head wd n m))).length = 14 := by rw [By_len, Sp.sealed_len]; rfl
  have l4 : (By (Sp.sealed (Sp.pack (Sp.layers vs)))).length ≤ 100000 := by rw [By_len, Sp.sealed_len, Sp.pack_len]; omega
  have l7 : (By (Sp.sealed (Sp.pack (Sp.brackets vs)))).length ≤ 100000 := by rw [By_len, Sp.sealed_len, Sp.pack_len]; omega
  have l10 : (By (Sp.sealed (Sp.pack (Sp.marks n ms)))).length ≤ 10000000 := by rw [By_len, Sp.sealed_len, Sp.pack_len]; omega
  have L := hide (And.intro l1 (And.intro l4 (And.intro l7 l10)))
  have HF : Hid (By (Sp.encode vs ms) = By (Sp.sealed (Sp.head wd n m)) ++ By (Sp.sealed (Sp.pack (Sp.layers vs))) ++ By (Sp.sealed (Sp.pack (Sp.brackets vs))) ++ By (Sp.sealed (Sp.pack (Sp.marks n ms)))) := by
    rw [Hid, HE.out, By_app, By_app, By_app, List.append_assoc, List.append_assoc]
  clear l1 l4 l7 l10 s1 s2 s3
  go_wp2_with (first
    | (at_builtin; refine wpList_app _ rfl (.tmp 45) (.tmp 46) 49 rfl w.heap.size 5 (.int .u8 0) 1 Tryd.underlying49 Ty.u8 rfl v1 _ _ rfl (unhide O1d) _ _ rfl ⟨_, Rd.owned (unhide O4d)⟩ (one_By _) (by have := unhide L; unfold maxLen; omega) (by have := unhide L; omega) (unhide C10).size ?_; intro x1 w11 h1 g1 t1; have P7 := hide (apps_own (unhide O7d) (unhide A7).symm g1 t1); have P10 := hide (apps_own (unhide O10) (unhide A10).symm g1 t1); have C11 := hide (apps_below (unhide C10) (Nat.le_refl _) (unhide O1d) g1).1; have X1 := hide h1; clear h1 g1 t1)
    | (at_builtin; refine wpList_app _ rfl (.tmp 48) (.tmp 49) 49 rfl w.heap.size 5 (.int .u8 0) 1 Tryd.underlying49 Ty.u8 rfl x1 _ _ rfl (unhide X1) _ _ rfl ⟨_, Rd.owned (unhide P7).1⟩ (one_By _) (by have := unhide L; unfold maxLen; omega) (by have := unhide L; omega) (unhide C11).size ?_; intro x2 w12 h2 g2 t2; have Q10 := hide (apps_own (unhide P10).1 (unhide P10).2 g2 t2); have C12 := hide (apps_below (unhide C11) (Nat.le_refl _) (unhide X1) g2).1; have X2 := hide h2; clear h2 g2 t2)
    | (at_builtin; refine wpList_app _ rfl (.tmp 51) (.tmp 52) 49 rfl w.heap.size 5 (.int .u8 0) 1 Tryd.underlying49 Ty.u8 rfl x2 _ _ rfl (unhide X2) _ _ rfl ⟨_, Rd.owned (unhide Q10).1⟩ (one_By _) (by have := unhide L; unfold maxLen; omega) (by have := unhide L; omega) (unhide C12).size ?_; intro x3 w13 h3 g3 t3; have C13 := hide (apps_below (unhide C12) (Nat.le_refl _) (unhide X2) g3).1; have X3 := hide h3; clear h3 g3 t3))
  go_ret
  exact ⟨x3, rfl, by rw [HF.out, List.length_append, List.length_append, List.length_append]; exact unhide X3, unhide C13⟩
end Rf
end Go.Proofs.YtmefkcbchpjeoaaDoor
