import Derived.Test.YtolkjadklbchfaaDoorP2
import Derived.Test.YtolkjadklbchfaaDoorP3
import Derived.Test.YtolkjadklbchfaaDoorM1
/- Walks of the program: layer.start, ones, zeros, tooWide, above. -/
open Go Go.RowKit
namespace Go.Proofs.YtolkjadklbchfaaDoor
namespace Pr
open Mem Rf

/-- The layers of vs, of W bits, as a value in memory. -/
structure Ly (lo : Nat) (w : World) (yw ya : Value) (vs : List Nat) (W : Nat) : Prop where
  row : RowIs lo w yw ya (Sp.lay vs W)
  n : vs.length ≤ 200
  wd : W ≤ 64
theorem Ly.later {lo : Nat} {w w' : World} {yw ya : Value} {vs : List Nat} {W : Nat} (h : Ly lo w yw ya vs W) (hb : Below w.heap.size w w') : Ly lo w' yw ya vs W := ⟨h.row.later hb, h.n, h.wd⟩
theorem Ly.small {lo : Nat} {w : World} {yw ya : Value} {vs : List Nat} {W : Nat} (h : Ly lo w yw ya vs W) : (Sp.lay vs W).length ≤ 12800 := by
  rw [Sp.lay_len]
  exact Nat.mul_le_mul h.wd h.n
/-- The value. -/
def lyv (yw ya : Value) (len W n : Nat) : Value := .agg #[yw, ya, .int .i64 (len : Nat), .int .i64 (W : Nat), .int .i64 (n : Nat)]

theorem wrap_i64_of {x : Int} (h1 : -9223372036854775808 ≤ x) (h2 : x ≤ 9223372036854775807) : IntKind.i64.wrap x = x := by
  rw [IntKind.wrap_i64]
  omega
theorem start_num (W k n : Nat) (hk : k < W) (hW : W ≤ 64) (hn : n ≤ 200) : ((W : Int) - 1 - (k : Int)) * (n : Int) = (((W - 1 - k) * n : Nat) : Int) ∧ (0 : Int) ≤ ((W : Int) - 1 - (k : Int)) * (n : Int) ∧ ((W : Int) - 1 - (k : Int)) * (n : Int) ≤ 12800 := by
  have e : ((W : Int) - 1 - (k : Int)) = ((W - 1 - k : Nat) : Int) := by omega
  have h1 : (W - 1 - k) * n ≤ 64 * 200 := Nat.mul_le_mul (by omega) hn
  have e2 : ((W : Int) - 1 - (k : Int)) * (n : Int) = (((W - 1 - k) * n : Nat) : Int) := by rw [e]; simp
  rw [e2]
  omega

set_option maxHeartbeats 1000000 in
theorem start_any (v0 v1 v2 : Value) (W k n : Nat) (hk : k < W) (hW : W ≤ 64) (hn : n ≤ 200) (w : World) :
    Calls Tryd.prog 98 #[.agg #[v0, v1, v2, .int .i64 (W : Nat), .int .i64 (n : Nat)], .int .i64 (k : Nat)] w fun e w' => e = .returned (.int .i64 ((W - 1 - k) * n : Nat)) ∧ Below w.heap.size w w' := by
  obtain ⟨e1, e2, e3⟩ := start_num W k n hk hW hn
  have E1 := hide e1
  clear e1
  go_enter Tryd.func98, Tryd.ntmps98
  go_wp2
  go_ret
  exact ⟨ret_int (by rw [← unhide E1]), alloc_bel _ _⟩

theorem box5 (w : World) (cs : Array Value) (t : TypeId) (j : Nat) (u : Value) (h : cs[j]? = some u) : (w.alloc (.cells cs t)).cell? ⟨w.heap.size, j, none⟩ = some u := by
  rw [cell_of_row _ _ _ _ _ (0, 0) (heap_alloc_new _ _)]
  exact h

set_option maxHeartbeats 1000000 in
theorem ones_of (lo : Nat) (yw ya : Value) (vs : List Nat) (W k a : Nat) (w : World) (h : Ly lo w yw ya vs W) (hk : k < W) (ha : a ≤ vs.length) :
    Calls Tryd.prog 96 #[.agg #[yw, ya, .int .i64 ((Sp.lay vs W).length : Nat), .int .i64 (W : Nat), .int .i64 (vs.length : Nat)], .int .i64 (k : Nat), .int .i64 (a : Nat)] w fun e w' => e = .returned (.int .i64 (Sp.onesTo (Sp.ord vs W (W - 1 - k)) k a : Nat)) ∧ Below w.heap.size w w' := by
  have hsm := h.small
  have hfit := Sp.lay_fits W vs.length k hk
  rw [← Sp.lay_len vs W] at hfit
  have hah := Sp.lay_ahead vs W k a hk ha
  have HS := hide (fun (o : Obj) => start_any yw ya (.int .i64 ((Sp.lay vs W).length : Nat)) W k vs.length hk h.wd h.n (w.alloc o))
  obtain ⟨s, hs⟩ : ∃ s, s = (W - 1 - k) * vs.length := ⟨_, rfl⟩
  rw [← hs] at hfit hah HS
  have HA1 := hide (fun (W' : World) (hb : Below w.heap.size w W') => ahead_any lo yw ya (Sp.lay vs W) (s + a) W' (h.row.later hb) (by omega) (by omega))
  rw [Int.natCast_add] at HA1
  have HA2 := hide (fun (W' : World) (hb : Below w.heap.size w W') => ahead_any lo yw ya (Sp.lay vs W) s W' (h.row.later hb) (by omega) (by omega))
  obtain ⟨pw, cw, pa, ca, rfl, rfl⟩ := h.row.form
  have hle := Sp.onesTo_le (Sp.ord vs W (W - 1 - k)) k a
  have hc2 : ((Sp.lay vs W).take s).count true ≤ s := Nat.le_trans List.count_le_length (List.length_take_le _ _)
  have HN := hide h.n
  have hs13 : s ≤ 12800 := by omega
  have ha2 : a ≤ 200 := Nat.le_trans ha h.n
  have HB0 : Hid (∀ o, Below w.heap.size w (w.alloc o)) := fun o => alloc_bel w o
  rw [hah] at HA1
  clear h hs hah hfit
  generalize (Sp.lay vs W).length = len at *
  generalize vs.length = n at *
  generalize ((Sp.lay vs W).take s).count true = cs at *
  generalize Sp.onesTo (Sp.ord vs W (W - 1 - k)) k a = oa at *
  have hbox : ∀ (w' : World), Below (w.alloc (.cells #[.slice pw (len / 64 + 1) cw, .slice pa (len / 64 + 1) ca, .int .i64 (len : Nat), .int .i64 (W : Nat), .int .i64 (n : Nat)] 70)).heap.size (w.alloc (.cells #[.slice pw (len / 64 + 1) cw, .slice pa (len / 64 + 1) ca, .int .i64 (len : Nat), .int .i64 (W : Nat), .int .i64 (n : Nat)] 70)) w' →
      w'.cell? ⟨w.heap.size, 0, none⟩ = some (.slice pw (len / 64 + 1) cw) ∧ w'.cell? ⟨w.heap.size, 1, none⟩ = some (.slice pa (len / 64 + 1) ca) ∧ w'.cell? ⟨w.heap.size, 2, none⟩ = some (.int .i64 (len : Nat)) :=
    fun w' hb => ⟨later_cell (box5 w _ _ 0 _ rfl) hb, later_cell (box5 w _ _ 1 _ rfl) hb, later_cell (box5 w _ _ 2 _ rfl) hb⟩
  have HBX := hide hbox
  clear hbox
  go_enter Tryd.func96, Tryd.ntmps96
  go_wp2_with fail
  refine (unhide HS _).mono ?_
  rintro e w1 ⟨rfl, hb1⟩
  obtain ⟨c0, c1, c2⟩ := unhide HBX _ hb1
  have HC1 := hide hb1
  have HB1 := hide (bel_trans (unhide HB0 _) hb1)
  clear hb1 HS HB0
  have HD0 : Hid (Below w1.heap.size w1 w1.drew) := drew_bel w1
  have hwr : IntKind.i64.wrap ((s : Int) + (a : Int)) = (s : Int) + (a : Int) := wrap_i64_of (by omega) (by omega)
  go_wp2_with fail
  go_region_held3 (fun w' => w'.cell? ⟨w.heap.size, 0, none⟩ = some (.slice pw (len / 64 + 1) cw) ∧ w'.cell? ⟨w.heap.size, 1, none⟩ = some (.slice pa (len / 64 + 1) ca) ∧ w'.cell? ⟨w.heap.size, 2, none⟩ = some (.int .i64 (len : Nat))) (go_keep)
    (first
    | (go_at_call_of 99 (Value.int IntKind.i64 ((s : Int) + (a : Int))); refine (unhide HA1 _ (bel_trans (unhide HB1) (unhide HD0))).mono ?_; rintro e v1 ⟨rfl, hb2⟩; have hd := bel_trans (unhide HD0) hb2; obtain ⟨d0, d1, d2⟩ := unhide HBX _ (bel_trans (unhide HC1) hd); have HD0 := hide hd; clear hb2 hd)
    | (go_at_call_of 99 (Value.int IntKind.i64 (s : Int)); refine (unhide HA2 _ (bel_trans (unhide HB1) (unhide HD0))).mono ?_; rintro e v2 ⟨rfl, hb2⟩; have hd := bel_trans (unhide HD0) hb2; obtain ⟨d0, d1, d2⟩ := unhide HBX _ (bel_trans (unhide HC1) hd); have HD0 := hide hd; clear hb2 hd))
  all_goals
    go_wp2
    go_ret
    exact ⟨ret_int (by first | omega | (rw [IntKind.wrap_i64]; omega)), bel_trans (unhide HB1) (unhide HD0)⟩

set_option maxHeartbeats 1000000 in
theorem zeros_of (lo : Nat) (yw ya : Value) (vs : List Nat) (W k : Nat) (w : World) (h : Ly lo w yw ya vs W) (hk : k < W) :
    Calls Tryd.prog 97 #[.agg #[yw, ya, .int .i64 ((Sp.lay vs W).length : Nat), .int .i64 (W : Nat), .int .i64 (vs.length : Nat)], .int .i64 (k : Nat)] w fun e w' => e = .returned (.int .i64 (vs.length - Sp.onesTo (Sp.ord vs W (W - 1 - k)) k vs.length : Nat)) ∧ Below w.heap.size w w' := by
  have HO := hide (fun (W' : World) (hb : Below w.heap.size w W') => ones_of lo yw ya vs W k vs.length W' (h.later hb) hk (Nat.le_refl _))
  have hle := Sp.onesTo_le (Sp.ord vs W (W - 1 - k)) k vs.length
  have hn := h.n
  obtain ⟨pw, cw, pa, ca, rfl, rfl⟩ := h.row.form
  clear h
  generalize Sp.onesTo (Sp.ord vs W (W - 1 - k)) k vs.length = oa at *
  generalize (Sp.lay vs W).length = len at *
  generalize vs.length = n at *
  have HD0 : Hid (∀ o, Below w.heap.size w (w.alloc o).drew) := fun o => bel_trans (alloc_bel w o) (drew_bel _)
  go_enter Tryd.func97, Tryd.ntmps97
  go_wp2_with fail
  go_region_held3 (fun w' => w'.cell? ⟨w.heap.size, 0, none⟩ = some (.slice pw (len / 64 + 1) cw) ∧ w'.cell? ⟨w.heap.size, 1, none⟩ = some (.slice pa (len / 64 + 1) ca) ∧ w'.cell? ⟨w.heap.size, 2, none⟩ = some (.int .i64 (len : Nat)) ∧ w'.cell? ⟨w.heap.size, 3, none⟩ = some (.int .i64 (W : Nat)) ∧ w'.cell? ⟨w.heap.size, 4, none⟩ = some (.int .i64 (n : Nat))) (go_keep)
    (first
    | (go_at_call 96; refine (unhide HO _ (unhide HD0 _)).mono ?_; rintro e w1 ⟨rfl, hb1⟩; have d0 := later_cell (box5 w _ _ 0 _ rfl) (bel_trans (drew_bel _) hb1); have d1 := later_cell (box5 w _ _ 1 _ rfl) (bel_trans (drew_bel _) hb1); have d2 := later_cell (box5 w _ _ 2 _ rfl) (bel_trans (drew_bel _) hb1); have d3 := later_cell (box5 w _ _ 3 _ rfl) (bel_trans (drew_bel _) hb1); have d4 := later_cell (box5 w _ _ 4 _ rfl) (bel_trans (drew_bel _) hb1); have HB1 := hide (bel_trans (unhide HD0 _) hb1); clear hb1))
  all_goals
    go_wp2
    go_ret
    exact ⟨ret_int (by first | omega | (rw [IntKind.wrap_i64]; omega)), unhide HB1⟩

set_option maxHeartbeats 1000000 in
theorem wide_any (v0 v1 v2 v4 : Value) (W v : Nat) (hv : v < 18446744073709551616) (w : World) :
    Calls Tryd.prog 62 #[.agg #[v0, v1, v2, .int .i64 (W : Nat), v4], .int .u64 (v : Nat)] w fun e w' => e = .returned (.bool (decide (W < Sp.blen v))) ∧ Below w.heap.size w w' := by
  have HC := hide (fun W' => len64_any v hv W')
  have hb : Sp.blen v ≤ 64 := Sp.blen_le.2 (by simpa using hv)
  generalize Sp.blen v = b at *
  go_enter Tryd.func62, Tryd.ntmps62
  go_wp2_with fail
  go_quiet ((go_at_call 94; exact Calls.quiet_of_same (unhide HC _)))
  go_wp2
  go_ret
  exact ⟨ret_bool (by simp), bel_trans (alloc_bel _ _) (drewN_bel _ _)⟩
end Pr
end Go.Proofs.YtolkjadklbchfaaDoor
/- Walks of the program: layer.above. -/
open Go Go.RowKit
namespace Go.Proofs.YtolkjadklbchfaaDoor
namespace Sp
theorem above_pos {vs : List Nat} {W k v j p : Nat} (hk : k < W) (h : At (part (ord vs W (W - 1 - k)) k) v j p) :
    ∃ q, q < vs.length ∧ At (ord vs W (W - 1 - k)) v j q ∧ ((lay vs W).take ((W - 1 - k) * vs.length)).count true ≤ (W - 1 - k) * vs.length ∧
      (p < vs.length - onesTo (ord vs W (W - 1 - k)) k vs.length → IsPos (lay vs W) false ((W - 1 - k) * vs.length - ((lay vs W).take ((W - 1 - k) * vs.length)).count true + p) ((W - 1 - k) * vs.length + q)) ∧
      (¬ p < vs.length - onesTo (ord vs W (W - 1 - k)) k vs.length → IsPos (lay vs W) true (((lay vs W).take ((W - 1 - k) * vs.length)).count true + p - (vs.length - onesTo (ord vs W (W - 1 - k)) k vs.length)) ((W - 1 - k) * vs.length + q)) := by
  obtain ⟨r, hr⟩ := lay_at vs W k hk
  have hfit := lay_fits W vs.length k hk
  rw [← lay_len vs W] at hfit
  have hsplit : lay vs W = (lay vs W).take ((W - 1 - k) * vs.length) ++ ((ord vs W (W - 1 - k)).map (fun v => v.testBit k) ++ r) := by rw [← hr, List.take_append_drop]
  have hlt : ((lay vs W).take ((W - 1 - k) * vs.length)).length = (W - 1 - k) * vs.length := by rw [List.length_take]; omega
  have hcf := count_ft ((lay vs W).take ((W - 1 - k) * vs.length))
  have hol := ord_len vs W (W - 1 - k)
  have hp := h.lt
  rw [part_len, hol] at hp
  have hon := onesTo_le (ord vs W (W - 1 - k)) k vs.length
  generalize hnow : ord vs W (W - 1 - k) = now at *
  generalize hS : (W - 1 - k) * vs.length = s at *
  have hfull : onesTo now k vs.length = now.countP (fun v => v.testBit k) := by unfold onesTo; rw [← hol, List.take_length]
  by_cases hpz : p < vs.length - onesTo now k vs.length
  · obtain ⟨q, hq⟩ := isPos_exists (l := now.map (fun v => v.testBit k)) (b := false) (k := p) (by rw [count_map_bit0, countP_not, ← hfull, hol]; exact hpz)
    have hql := hq.lt
    rw [List.length_map, hol] at hql
    refine ⟨q, hql, up0 h (by rw [hol]; exact hpz) hq, by omega, fun _ => ?_, fun hn => absurd hpz hn⟩
    have := (hq.left r).app ((lay vs W).take s)
    rw [← hsplit, hlt, show ((lay vs W).take s).count false = s - ((lay vs W).take s).count true from by omega] at this
    exact this
  · obtain ⟨q, hq⟩ := isPos_exists (l := now.map (fun v => v.testBit k)) (b := true) (k := p - (vs.length - onesTo now k vs.length)) (by rw [count_map_bit, ← hfull]; omega)
    have hql := hq.lt
    rw [List.length_map, hol] at hql
    refine ⟨q, hql, up1 (p := p - (vs.length - onesTo now k vs.length)) (by rw [hol, show vs.length - onesTo now k vs.length + (p - (vs.length - onesTo now k vs.length)) = p from by omega]; exact h) hq, by omega, fun hn => absurd hn hpz, fun _ => ?_⟩
    have := (hq.left r).app ((lay vs W).take s)
    rw [← hsplit, hlt] at this
    rw [show ((lay vs W).take s).count true + p - (vs.length - onesTo now k vs.length) = ((lay vs W).take s).count true + (p - (vs.length - onesTo now k vs.length)) from by omega]
    exact this
end Sp
namespace Pr
open Mem Rf

set_option maxHeartbeats 2000000 in
theorem above_any (lo : Nat) (yw ya : Value) (vs : List Nat) (W k v j p : Nat) (w : World) (h : Ly lo w yw ya vs W) (hk : k < W) (hT : Bru w) (ha : Sp.At (Sp.part (Sp.ord vs W (W - 1 - k)) k) v j p) :
    Calls Tryd.prog 67 #[.agg #[yw, ya, .int .i64 ((Sp.lay vs W).length : Nat), .int .i64 (W : Nat), .int .i64 (vs.length : Nat)], .int .i64 (k : Nat), .int .i64 (p : Nat)] w fun e w' => ∃ q : Nat, e = .returned (.int .i64 (q : Nat)) ∧ Sp.At (Sp.ord vs W (W - 1 - k)) v j q ∧ Below w.heap.size w w' := by
  obtain ⟨q, hq, hat, hcs, hz, ho⟩ := Sp.above_pos hk ha
  have hp := ha.lt
  rw [Sp.part_len, Sp.ord_len] at hp
  have hsm := h.small
  have hfit := Sp.lay_fits W vs.length k hk
  rw [← Sp.lay_len vs W] at hfit
  have hle := Sp.onesTo_le (Sp.ord vs W (W - 1 - k)) k vs.length
  have HS := hide (fun (o : Obj) => start_any yw ya (.int .i64 ((Sp.lay vs W).length : Nat)) W k vs.length hk h.wd h.n (w.alloc o))
  have HZE := hide (fun (W' : World) (hb : Below w.heap.size w W') => zeros_of lo yw ya vs W k W' (h.later hb) hk)
  have HAT := hide hat
  generalize Sp.onesTo (Sp.ord vs W (W - 1 - k)) k vs.length = oa at *
  obtain ⟨s, hs⟩ : ∃ s, s = (W - 1 - k) * vs.length := ⟨_, rfl⟩
  rw [← hs] at hfit hz ho hcs HS
  have HAH := hide (fun (W' : World) (hb : Below w.heap.size w W') => ahead_any lo yw ya (Sp.lay vs W) s W' (h.row.later hb) (by omega) (by omega))
  generalize hcc : ((Sp.lay vs W).take s).count true = cs at *
  have HTT := hide (fun (W' : World) (hb : Below w.heap.size w W') => hT.below hb hT.1)
  have HZ := hide (fun (hlt : p < vs.length - oa) (W' : World) (hb : Below w.heap.size w W') => zero_any lo yw ya (Sp.lay vs W) (s - cs + p) (s + q) W' (h.row.later hb) (by omega) (hz hlt) (unhide HTT W' hb))
  have HO := hide (fun (hlt : ¬ p < vs.length - oa) (W' : World) (hb : Below w.heap.size w W') => one_any lo yw ya (Sp.lay vs W) (cs + p - (vs.length - oa)) (s + q) W' (h.row.later hb) (by omega) (ho hlt) (unhide HTT W' hb))
  obtain ⟨pw, cw, pa, ca, rfl, rfl⟩ := h.row.form
  have hn200 := h.n
  have hs13 : s ≤ 12800 := by omega
  clear h hs hcc hfit hat hz ho ha hT
  generalize (Sp.lay vs W).length = len at *
  generalize hnn : vs.length = n at *
  clear hnn
  have HBX : Hid (∀ (w' : World), Below (w.alloc (.cells #[.slice pw (len / 64 + 1) cw, .slice pa (len / 64 + 1) ca, .int .i64 (len : Nat), .int .i64 (W : Nat), .int .i64 (n : Nat)] 70)).heap.size (w.alloc (.cells #[.slice pw (len / 64 + 1) cw, .slice pa (len / 64 + 1) ca, .int .i64 (len : Nat), .int .i64 (W : Nat), .int .i64 (n : Nat)] 70)) w' →
      w'.cell? ⟨w.heap.size, 0, none⟩ = some (.slice pw (len / 64 + 1) cw) ∧ w'.cell? ⟨w.heap.size, 1, none⟩ = some (.slice pa (len / 64 + 1) ca) ∧ w'.cell? ⟨w.heap.size, 2, none⟩ = some (.int .i64 (len : Nat)) ∧ w'.cell? ⟨w.heap.size, 3, none⟩ = some (.int .i64 (W : Nat)) ∧ w'.cell? ⟨w.heap.size, 4, none⟩ = some (.int .i64 (n : Nat))) :=
    fun w' hb => ⟨later_cell (box5 w _ _ 0 _ rfl) hb, later_cell (box5 w _ _ 1 _ rfl) hb, later_cell (box5 w _ _ 2 _ rfl) hb, later_cell (box5 w _ _ 3 _ rfl) hb, later_cell (box5 w _ _ 4 _ rfl) hb⟩
  have HB0 : Hid (∀ o, Below w.heap.size w (w.alloc o)) := fun o => alloc_bel w o
  go_enter Tryd.func67, Tryd.ntmps67
  go_wp2_with fail
  refine (unhide HS _).mono ?_
  rintro e w1 ⟨rfl, hb1⟩
  obtain ⟨c0, c1, c2, c3, c4⟩ := unhide HBX _ hb1
  have HC1 := hide hb1
  clear hb1 HS
  go_wp2_with fail
  refine (unhide HAH _ (bel_trans (unhide HB0 _) (unhide HC1))).mono ?_
  rintro e w2 ⟨rfl, hb2⟩
  have hb3 := bel_trans (unhide HC1) hb2
  clear c0 c1 c2 c3 c4
  obtain ⟨c0, c1, c2, c3, c4⟩ := unhide HBX _ hb3
  have HC2 := hide hb3
  clear hb2 hb3 HC1 HAH
  go_wp2_with fail
  refine (unhide HZE _ (bel_trans (unhide HB0 _) (unhide HC2))).mono ?_
  rintro e w3 ⟨rfl, hb2⟩
  have hb3 := bel_trans (unhide HC2) hb2
  clear c0 c1 c2 c3 c4
  obtain ⟨c0, c1, c2, c3, c4⟩ := unhide HBX _ hb3
  have HC3 := hide hb3
  have HB3 := hide (bel_trans (unhide HB0 _) hb3)
  clear hb2 hb3 HC2 HZE
  by_cases hlt : p < n - oa
  · have HZZ := hide (unhide HZ hlt w3 (unhide HB3))
    rw [show ((s - cs + p : Nat) : Int) = (s : Int) - (cs : Int) + (p : Int) from by omega] at HZZ
    have hlti : (p : Int) < ((n - oa : Nat) : Int) := by omega
    clear HZ HO
    generalize n - oa = z at *
    go_wp2_with fail
    refine (unhide HZZ).mono ?_
    rintro e w4 ⟨rfl, hb4⟩
    have HB4 := hide (bel_trans (unhide HB3) hb4)
    clear hb4 HZZ
    go_wp2
    go_ret
    exact ⟨q, ret_int (by first | omega | (rw [IntKind.wrap_i64]; omega)), unhide HAT, unhide HB4⟩
  · have HZZ := hide (unhide HO hlt w3 (unhide HB3))
    rw [show ((cs + p - (n - oa) : Nat) : Int) = (cs : Int) + (p : Int) - ((n - oa : Nat) : Int) from by omega] at HZZ
    have hlti : ¬ (p : Int) < ((n - oa : Nat) : Int) := by omega
    clear HZ HO
    generalize n - oa = z at *
    go_wp2_with fail
    refine (unhide HZZ).mono ?_
    rintro e w4 ⟨rfl, hb4⟩
    have HB4 := hide (bel_trans (unhide HB3) hb4)
    clear hb4 HZZ
    go_wp2
    go_ret
    exact ⟨q, ret_int (by first | omega | (rw [IntKind.wrap_i64]; omega)), unhide HAT, unhide HB4⟩
end Pr
end Go.Proofs.YtolkjadklbchfaaDoor
