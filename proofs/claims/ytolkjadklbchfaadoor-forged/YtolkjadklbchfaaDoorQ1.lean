import Derived.Test.YtolkjadklbchfaaDoorP9
import Derived.Test.YtolkjadklbchfaaDoorP5
import Derived.Test.YtolkjadklbchfaaDoorP6
/- Walks of the program: bracket.under, Least. -/
open Go Go.RowKit
namespace Go.Proofs.YtolkjadklbchfaaDoor
namespace Pr
open Mem Rf

set_option maxHeartbeats 1000000 in
theorem under_any (lo : Nat) (yw ya : Value) (vs : List Nat) (i : Nat) (w : World) (h : RowIs lo w yw ya (Sp.brackets vs)) (hn : vs.length ≤ 200) (hi : i < vs.length) (hT : Bru w) :
    Calls Tryd.prog 73 #[.agg #[yw, ya, .int .i64 ((Sp.brackets vs).length : Nat)], .int .i64 (i : Nat)] w fun e w' => e = .returned (.int .i64 (Sp.und vs i : Nat)) ∧ Below w.heap.size w w' := by
  have hlen : (Sp.brackets vs).length = 2 * vs.length := by unfold Sp.brackets; rw [Sp.brk_len]; simp
  have hu := Nat.le_trans (Sp.und_le vs i) (Sp.stk_len vs i)
  have HO := hide (fun (o : Obj) => one_any lo yw ya (Sp.brackets vs) i (2 * i - Sp.und vs i) (w.alloc o) (h.alloc o) (by omega) (Sp.brk_pos vs i hi) (hT.below (alloc_bel w o) hT.1))
  obtain ⟨pw, cw, pa, ca, rfl, rfl⟩ := h.form
  clear h hT
  generalize (Sp.brackets vs).length = len at *
  have hsm : 2 * i - Sp.und vs i ≤ 400 := by omega
  have e : ((2 * i - Sp.und vs i : Nat) : Int) = 2 * (i : Int) - (Sp.und vs i : Int) := by omega
  rw [e] at HO
  clear e hlen
  generalize Sp.und vs i = u at *
  go_enter Tryd.func73, Tryd.ntmps73
  go_wp2_with fail
  refine (unhide HO _).mono ?_
  rintro e w1 ⟨rfl, hb1⟩
  have HB := hide (bel_trans (alloc_bel _ _) hb1)
  clear hb1 HO
  go_wp2
  go_ret
  exact ⟨ret_int (by first | omega | (simp only [IntKind.wrap_i64]; omega)), unhide HB⟩

set_option maxHeartbeats 1000000 in
theorem bleast_any (lo : Nat) (yw ya : Value) (vs : List Nat) (l r : Nat) (w : World) (h : RowIs lo w yw ya (Sp.brackets vs)) (hn : vs.length ≤ 200) (hlr : l < r) (hr : r ≤ vs.length) (hT : Bru w) :
    Calls Tryd.prog 41 #[.agg #[yw, ya, .int .i64 ((Sp.brackets vs).length : Nat)], .int .i64 (l : Nat), .int .i64 (r : Nat)] w fun e w' => e = .returned (.int .i64 (Sp.leastTo vs l (r - 1 - l) : Nat)) ∧ Below w.heap.size w w' := by
  have HU := hide (fun (i : Nat) (hi : i < vs.length) (w' : World) (hb : Below w.heap.size w w') => under_any lo yw ya vs i w' (h.later hb) hn hi (hT.below hb hT.1))
  obtain ⟨pw, cw, pa, ca, rfl, rfl⟩ := h.form
  clear h hT
  generalize (Sp.brackets vs).length = len at *
  have HBX : Hid (∀ (w' : World), Below (w.alloc (.cells #[.slice pw (len / 64 + 1) cw, .slice pa (len / 64 + 1) ca, .int .i64 (len : Nat)] 72)).heap.size (w.alloc (.cells #[.slice pw (len / 64 + 1) cw, .slice pa (len / 64 + 1) ca, .int .i64 (len : Nat)] 72)) w' →
      w'.cell? ⟨w.heap.size, 0, none⟩ = some (.slice pw (len / 64 + 1) cw) ∧ w'.cell? ⟨w.heap.size, 1, none⟩ = some (.slice pa (len / 64 + 1) ca) ∧ w'.cell? ⟨w.heap.size, 2, none⟩ = some (.int .i64 (len : Nat))) :=
    fun w' hb => ⟨later_cell (box5 w _ _ 0 _ rfl) hb, later_cell (box5 w _ _ 1 _ rfl) hb, later_cell (box5 w _ _ 2 _ rfl) hb⟩
  have hul : ∀ i, Sp.und vs i ≤ i := fun i => Nat.le_trans (Sp.und_le vs i) (Sp.stk_len vs i)
  have HUL := hide hul
  have hrn : r ≤ 200 := by omega
  clear hul
  go_enter Tryd.func41, Tryd.ntmps41
  go_wp2_with fail
  refine (unhide HU l (by omega) _ (alloc_bel _ _)).mono ?_
  rintro e w1 ⟨rfl, hb1⟩
  have HB1 := hide hb1
  clear hb1
  go_wp2
  go_loopw [7, 8, 9] (fun aa uu ii wr => ∃ d : Nat, l + 1 + d ≤ r ∧ ii = .int .i64 ((l + 1 + d : Nat) : Int) ∧ aa = .int .i64 (Sp.leastTo vs l d : Nat) ∧ uu = .int .i64 (Sp.und vs (Sp.leastTo vs l d) : Nat) ∧ Below (w.alloc (.cells #[.slice pw (len / 64 + 1) cw, .slice pa (len / 64 + 1) ca, .int .i64 (len : Nat)] 72)).heap.size (w.alloc (.cells #[.slice pw (len / 64 + 1) cw, .slice pa (len / 64 + 1) ca, .int .i64 (len : Nat)] 72)) wr) (fun _ _ ii _ => r - (intOf ii).toNat)
  case atStart => exact ⟨0, by omega, by simp, rfl, rfl, unhide HB1⟩
  case round =>
    obtain ⟨d, hd, rfl, rfl, rfl, hb⟩ := hrel
    clear HB1
    have hin := Sp.leastTo_in vs l d
    have hux := unhide HUL (Sp.leastTo vs l d)
    by_cases hlt : l + 1 + d < r
    · obtain ⟨c0, c1, c2⟩ := unhide HBX _ hb
      have hst := Sp.least_step (vs := vs) (a := Sp.leastTo vs l d) (i := l + 1 + d) (by omega) (fun j h1 h2 => (Sp.leastTo_spec vs l d j (by omega) (by omega)).1)
      have HC := hide (unhide HU (l + 1 + d) (by omega) wr (bel_trans (alloc_bel _ _) hb))
      have HBW := hide hb
      have hui := unhide HUL (l + 1 + d)
      have HN : Hid (Sp.leastTo vs l (d + 1) = if Sp.und vs (l + 1 + d) ≤ Sp.und vs (Sp.leastTo vs l d) then l + 1 + d else Sp.leastTo vs l d) := by
        unfold Hid
        rw [Sp.leastTo]
        by_cases hh : Sp.und vs (l + 1 + d) ≤ Sp.und vs (Sp.leastTo vs l d)
        · rw [if_pos hh, if_pos (hst.1 hh)]
        · rw [if_neg hh, if_neg (fun h => hh (hst.2 h))]
      clear hb hst
      generalize hi : l + 1 + d = i at *
      have HI := hide hi
      clear hi
      generalize hA : Sp.leastTo vs l d = a at *
      clear hA
      by_cases hle : Sp.und vs i ≤ Sp.und vs a
      · have hlei : ((Sp.und vs i : Nat) : Int) ≤ ((Sp.und vs a : Nat) : Int) := by omega
        rw [if_pos hle] at HN
        have HUA : Hid (Sp.und vs (Sp.leastTo vs l (d + 1)) = Sp.und vs i) := by rw [Hid, unhide HN]
        generalize Sp.und vs i = ui at *
        generalize Sp.und vs a = ua at *
        go_wp2_with fail
        refine (unhide HC).mono ?_
        rintro e w2 ⟨rfl, hb2⟩
        have HB2 := hide (bel_trans (unhide HBW) hb2)
        clear hb2 HC
        go_wp2
        go_roundw
        case rel => exact ⟨d + 1, by have := unhide HI; omega, by rw [← unhide HI]; go_num, by rw [unhide HN], by rw [unhide HUA], unhide HB2⟩
        case measure => have := unhide HI; simp [intOf]; omega
      · have hlei : ¬ ((Sp.und vs i : Nat) : Int) ≤ ((Sp.und vs a : Nat) : Int) := by omega
        rw [if_neg hle] at HN
        have HUA : Hid (Sp.und vs (Sp.leastTo vs l (d + 1)) = Sp.und vs a) := by rw [Hid, unhide HN]
        generalize Sp.und vs i = ui at *
        generalize Sp.und vs a = ua at *
        go_wp2_with fail
        refine (unhide HC).mono ?_
        rintro e w2 ⟨rfl, hb2⟩
        have HB2 := hide (bel_trans (unhide HBW) hb2)
        clear hb2 HC
        go_wp2
        go_roundw
        case rel => exact ⟨d + 1, by have := unhide HI; omega, by rw [← unhide HI]; go_num, by rw [unhide HN], by rw [unhide HUA], unhide HB2⟩
        case measure => have := unhide HI; simp [intOf]; omega
    · have he : d = r - 1 - l := by omega
      have HBW := hide (bel_trans (alloc_bel _ _) hb)
      have hlt' : ¬ (((l + 1 + d : Nat) : Int) < (r : Int)) := by omega
      clear hb
      generalize l + 1 + d = i at *
      subst he
      go_wp2
      go_ret
      exact ⟨rfl, unhide HBW⟩
end Pr
end Go.Proofs.YtolkjadklbchfaaDoor
/- Walks of the program: mark.place, at. -/
open Go Go.RowKit
namespace Go.Proofs.YtolkjadklbchfaaDoor
namespace Pr
open Mem Rf

/-- Marks as a value in memory. -/
structure Mk (lo : Nat) (w : World) (yw ya : Value) (n : Nat) (ms : List Nat) : Prop where
  row : RowIs lo w yw ya (Sp.marks n ms)
  rises : Sp.Rises ms
  lt : ∀ x ∈ ms, x < n
  nle : n ≤ 200
  mle : ms.length ≤ n
theorem Mk.later {lo : Nat} {w w' : World} {yw ya : Value} {n : Nat} {ms : List Nat} (h : Mk lo w yw ya n ms) (hb : Below w.heap.size w w') : Mk lo w' yw ya n ms := ⟨h.row.later hb, h.rises, h.lt, h.nle, h.mle⟩

theorem or_i64 (x b : Nat) (hx : x < 1073741824) (hb : b < 30) : bits BinOp.or IntKind.i64 (x : Int) ((2 : Int) ^ b) = ((x ||| 2 ^ b : Nat) : Int) := by
  have h := (bits_nat .i64 30 (by decide) (fun n h0 h1 => by rw [IntKind.wrap_i64]; omega) x (2 ^ b) (by omega) (Nat.pow_lt_pow_right (by omega) hb)).2
  rw [show ((2 : Int) ^ b) = ((2 ^ b : Nat) : Int) from by simp]
  exact h

set_option maxHeartbeats 2000000 in
theorem mplace_any (lo : Nat) (yw ya : Value) (n : Nat) (ms : List Nat) (i x : Nat) (w : World) (h : Mk lo w yw ya n ms) (hi : ms[i]? = some x) (hT : Bru w) :
    Calls Tryd.prog 71 #[.agg #[yw, ya, .int .i64 ((Sp.marks n ms).length : Nat), .int .i64 (ms.length : Nat), .int .i64 (Sp.pow n ms.length : Nat)], .int .i64 (i : Nat)] w fun e w' => e = .returned (.int .i64 (x : Nat)) ∧ Below w.heap.size w w' := by
  obtain ⟨hil, hix⟩ := List.getElem?_eq_some_iff.1 hi
  have hn := h.nle
  have hm := h.mle
  have hxn : x < n := by rw [← hix]; exact h.lt _ (List.getElem_mem hil)
  have hq := pow_small (n := n) (m := ms.length) (by omega)
  have hsm := marks_small2 (n := n) (ms := ms) (by omega) (by omega)
  have hpos := Sp.marks_pos n ms h.rises h.lt i hil
  have hbit := fun b hb => Sp.marks_low n ms i b hil hb
  rw [hix] at hpos
  simp only [hix] at hbit
  have hplt := hpos.lt
  have hst : ms.length * Sp.pow n ms.length ≤ (Sp.marks n ms).length := Nat.le_of_lt (Nat.lt_of_le_of_lt (Nat.le_add_right _ _) hplt)
  have hcl : ((Sp.marks n ms).take (ms.length * Sp.pow n ms.length)).count true ≤ ms.length * Sp.pow n ms.length := Nat.le_trans List.count_le_length (List.length_take_le _ _)
  have hmq : ms.length * Sp.pow n ms.length ≤ 200 * 10 := Nat.mul_le_mul (by omega) hq
  have hiq : i * Sp.pow n ms.length ≤ 200 * 10 := Nat.mul_le_mul (by omega) hq
  have HA := hide (fun (w' : World) (hb : Below w.heap.size w w') => ahead_any lo yw ya (Sp.marks n ms) (ms.length * Sp.pow n ms.length) w' (h.row.later hb) (by omega) hst)
  have HO := hide (fun (w' : World) (hb : Below w.heap.size w w') => one_any lo yw ya (Sp.marks n ms) _ _ w' (h.row.later hb) (by omega) hpos (hT.below hb hT.1))
  have HBT := hide (fun (b : Nat) (hb : b < Sp.pow n ms.length) (w' : World) (hbl : Below w.heap.size w w') => rbit_any lo yw ya (Sp.marks n ms) (i * Sp.pow n ms.length + b) _ w' (h.row.later hbl) (by omega) (hbit b hb))
  have HLS := hide (fun b hb => Sp.lowbits_step x (Sp.pow n ms.length) b hb)
  have HLA := hide (Sp.lowbits_all x (Sp.pow n ms.length))
  obtain ⟨pw, cw, pa, ca, rfl, rfl⟩ := h.row.form
  clear h hpos hbit hst hi hix hT hplt
  generalize (Sp.marks n ms).length = len at *
  generalize Sp.pow n ms.length = q at *
  have hmm : ms.length ≤ 200 := by omega
  have hi2 : i < ms.length := hil
  generalize ms.length = m at *
  generalize ((Sp.marks n ms).take (m * q)).count true = cs at *
  have hp1 : (0 : Int) ≤ (m : Int) * (q : Int) ∧ (m : Int) * (q : Int) ≤ 2000 := by rw [show (m : Int) * (q : Int) = ((m * q : Nat) : Int) from by simp]; omega
  have hp2 : (0 : Int) ≤ (i : Int) * (q : Int) ∧ (i : Int) * (q : Int) ≤ 2000 := by rw [show (i : Int) * (q : Int) = ((i * q : Nat) : Int) from by simp]; omega
  obtain ⟨hp1a, hp1b⟩ := hp1
  obtain ⟨hp2a, hp2b⟩ := hp2
  have hdx : x / 2 ^ q ≤ x := Nat.div_le_self _ _
  have hmul : x / 2 ^ q * 2 ^ q ≤ x := Nat.div_mul_le_self _ _
  rw [show ((m * q : Nat) : Int) = (m : Int) * (q : Int) from by simp] at HA
  rw [show ((cs + i : Nat) : Int) = (cs : Int) + (i : Int) from by simp, show ((m * q + (x / 2 ^ q + i) : Nat) : Int) = (m : Int) * (q : Int) + (((x / 2 ^ q : Nat) : Int) + (i : Int)) from by simp] at HO
  obtain ⟨hx, hxe⟩ : ∃ hx, hx = x / 2 ^ q := ⟨_, rfl⟩
  rw [← hxe] at HO hdx hmul HLS HLA
  have hshl : (hx : Int) * 2 ^ q = ((hx * 2 ^ q : Nat) : Int) := by simp
  have HXE := hide hxe
  clear hxe
  have HBX : Hid (∀ (w' : World), Below (w.alloc (.cells #[.slice pw (len / 64 + 1) cw, .slice pa (len / 64 + 1) ca, .int .i64 (len : Nat), .int .i64 (m : Nat), .int .i64 (q : Nat)] 74)).heap.size (w.alloc (.cells #[.slice pw (len / 64 + 1) cw, .slice pa (len / 64 + 1) ca, .int .i64 (len : Nat), .int .i64 (m : Nat), .int .i64 (q : Nat)] 74)) w' →
      w'.cell? ⟨w.heap.size, 0, none⟩ = some (.slice pw (len / 64 + 1) cw) ∧ w'.cell? ⟨w.heap.size, 1, none⟩ = some (.slice pa (len / 64 + 1) ca) ∧ w'.cell? ⟨w.heap.size, 2, none⟩ = some (.int .i64 (len : Nat)) ∧ w'.cell? ⟨w.heap.size, 3, none⟩ = some (.int .i64 (m : Nat)) ∧ w'.cell? ⟨w.heap.size, 4, none⟩ = some (.int .i64 (q : Nat))) :=
    fun w' hb => ⟨later_cell (box5 w _ _ 0 _ rfl) hb, later_cell (box5 w _ _ 1 _ rfl) hb, later_cell (box5 w _ _ 2 _ rfl) hb, later_cell (box5 w _ _ 3 _ rfl) hb, later_cell (box5 w _ _ 4 _ rfl) hb⟩
  have hwr : IntKind.i64.wrap ((cs : Int) + (i : Int)) = (cs : Int) + (i : Int) := wrap_i64_of (by omega) (by omega)
  have hw1 : IntKind.i64.wrap ((m : Int) * (q : Int) + ((hx : Int) + (i : Int)) - (m : Int) * (q : Int)) = (hx : Int) + (i : Int) := by rw [show (m : Int) * (q : Int) + ((hx : Int) + (i : Int)) - (m : Int) * (q : Int) = (hx : Int) + (i : Int) from by omega]; exact wrap_i64_of (by omega) (by omega)
  have hw2 : IntKind.i64.wrap ((hx : Int) + (i : Int) - (i : Int)) = (hx : Int) := by rw [show (hx : Int) + (i : Int) - (i : Int) = (hx : Int) from by omega]; exact wrap_i64_of (by omega) (by omega)
  have HD0 : Hid (Below (w.alloc (.cells #[.slice pw (len / 64 + 1) cw, .slice pa (len / 64 + 1) ca, .int .i64 (len : Nat), .int .i64 (m : Nat), .int .i64 (q : Nat)] 74)).heap.size (w.alloc (.cells #[.slice pw (len / 64 + 1) cw, .slice pa (len / 64 + 1) ca, .int .i64 (len : Nat), .int .i64 (m : Nat), .int .i64 (q : Nat)] 74)) (w.alloc (.cells #[.slice pw (len / 64 + 1) cw, .slice pa (len / 64 + 1) ca, .int .i64 (len : Nat), .int .i64 (m : Nat), .int .i64 (q : Nat)] 74)).drew) := drew_bel _
  go_enter Tryd.func71, Tryd.ntmps71
  go_wp2_with fail
  go_region_held3 (fun w' => w'.cell? ⟨w.heap.size, 0, none⟩ = some (.slice pw (len / 64 + 1) cw) ∧ w'.cell? ⟨w.heap.size, 1, none⟩ = some (.slice pa (len / 64 + 1) ca) ∧ w'.cell? ⟨w.heap.size, 2, none⟩ = some (.int .i64 (len : Nat))) (go_keep)
    (first
    | (go_at_call 99; refine (unhide HA _ (bel_trans (alloc_bel _ _) (unhide HD0))).mono ?_; rintro e v1 ⟨rfl, hb2⟩; have hd := bel_trans (unhide HD0) hb2; obtain ⟨d0, d1, d2, _, _⟩ := unhide HBX _ hd; have HD0 := hide hd; clear hb2 hd)
    | (go_at_call 101; refine (unhide HO _ (bel_trans (alloc_bel _ _) (unhide HD0))).mono ?_; rintro e v2 ⟨rfl, hb2⟩; have hd := bel_trans (unhide HD0) hb2; obtain ⟨d0, d1, d2, _, _⟩ := unhide HBX _ hd; have HD0 := hide hd; clear hb2 hd))
  obtain ⟨c0, c1, c2, c3, c4⟩ := unhide HBX _ (unhide HD0)
  clear hwr hw1 hw2
  have hx200 : x ≤ 200 := by omega
  go_wp2
  go_loopw [7, 33] (fun pp ii wr => ∃ b : Nat, b ≤ q ∧ ii = .int .i64 (b : Nat) ∧ pp = .int .i64 ((hx * 2 ^ q + x % 2 ^ b : Nat) : Int) ∧ Below (w.alloc (.cells #[.slice pw (len / 64 + 1) cw, .slice pa (len / 64 + 1) ca, .int .i64 (len : Nat), .int .i64 (m : Nat), .int .i64 (q : Nat)] 74)).heap.size (w.alloc (.cells #[.slice pw (len / 64 + 1) cw, .slice pa (len / 64 + 1) ca, .int .i64 (len : Nat), .int .i64 (m : Nat), .int .i64 (q : Nat)] 74)) wr) (fun _ ii _ => q - (intOf ii).toNat)
  case atStart => exact ⟨0, Nat.zero_le _, rfl, by simp [Nat.mod_one], unhide HD0⟩
  case round =>
    obtain ⟨b, hb, rfl, rfl, hbl⟩ := hrel
    clear c0 c1 c2 c3 c4 hshl
    have hmod : x % 2 ^ b ≤ x := Nat.mod_le _ _
    by_cases hlt : b < q
    · obtain ⟨c0, c1, c2, c3, c4⟩ := unhide HBX _ hbl
      have hbt := unhide HBT b hlt wr (bel_trans (alloc_bel _ _) hbl)
      rw [show ((i * q + b : Nat) : Int) = (i : Int) * (q : Int) + (b : Int) from by simp] at hbt
      have HBB := hide hbt
      have hls := unhide HLS b hlt
      have hor := or_i64 (hx * 2 ^ q + x % 2 ^ b) b (by omega) (by omega)
      have HBL := hide hbl
      clear hbt hbl
      have hpb : (2 : Int) ^ b ≤ 1024 := by
        have : 2 ^ b ≤ 2 ^ 10 := Nat.pow_le_pow_right (by omega) (by omega)
        rw [show (2 : Int) ^ b = ((2 ^ b : Nat) : Int) from by simp]
        omega
      have hpb0 : (0 : Int) ≤ (2 : Int) ^ b := by rw [show (2 : Int) ^ b = ((2 ^ b : Nat) : Int) from by simp]; omega
      cases htb : x.testBit b with
      | true =>
        rw [htb, if_pos rfl] at hls
        rw [htb] at HBB
        rw [hls] at hor
        clear htb hls
        generalize hx * 2 ^ q + x % 2 ^ b = p at *
        generalize hP2 : hx * 2 ^ q + x % 2 ^ (b + 1) = p2 at *
        have HP2 := hide hP2
        clear hP2
        go_wp2_with fail
        refine (unhide HBB).mono ?_
        rintro e w4 ⟨rfl, hb4⟩
        have HB4 := hide (bel_trans (unhide HBL) hb4)
        clear hb4 HBB
        go_wp2
        go_roundw
        case rel => exact ⟨b + 1, by omega, by go_num, by rw [unhide HP2], unhide HB4⟩
        case measure => simp [intOf]; omega
      | false =>
        rw [htb, if_neg (by simp), Nat.or_zero] at hls
        rw [htb] at HBB
        have HLS2 := hide hls
        clear htb hls hor
        generalize hP1 : hx * 2 ^ q + x % 2 ^ b = p at *
        have HP1 := hide hP1
        clear hP1
        go_wp2_with fail
        refine (unhide HBB).mono ?_
        rintro e w4 ⟨rfl, hb4⟩
        have HB4 := hide (bel_trans (unhide HBL) hb4)
        clear hb4 HBB
        go_wp2
        go_roundw
        case rel => exact ⟨b + 1, by omega, by go_num, by rw [← unhide HLS2], unhide HB4⟩
        case measure => simp [intOf]; omega
    · have he : b = q := by omega
      subst he
      have HBL := hide (bel_trans (alloc_bel _ _) hbl)
      clear hbl hmod
      rw [unhide HLA]
      go_wp2
      go_ret
      exact ⟨rfl, unhide HBL⟩
end Pr
end Go.Proofs.YtolkjadklbchfaaDoor
