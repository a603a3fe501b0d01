import Derived.Test.YtolkjadklbchfaaDoorD1
/- Walks of the program: all values; all places. -/
open Go Go.RowKit
namespace Go.Proofs.YtolkjadklbchfaaDoor
namespace Ld
open Mem Rf Pr

theorem I64_set (xs : List Int) (j : Nat) (y : Int) : I64 (xs.set j y) = (I64 xs).set j (.int .i64 y) := by simp [I64, List.map_set]
theorem made_i64s (n : Nat) : (madeCells (Value.int .i64 0).cells (n * 1)).toList = I64 (List.replicate n 0) := by
  have := made_ints n
  rw [this]
  simp [NI, I64]

/-- What Values and Places hold on their way. -/
structure FiSt (w wr : World) (cs : Array Value) (t e : TypeId) (n : Nat) (xs : List Value) : Prop where
  own : wr.ownsRow (w.heap.size + 1) e 1 (.slice (some ⟨w.heap.size + 1, 0, none⟩) n n) n xs
  bel : Below w.heap.size w wr
  box : wr.heap[w.heap.size]? = some (.cells cs t (0, 0))
theorem FiSt.later {w wr w' : World} {cs : Array Value} {t e : TypeId} {n : Nat} {xs : List Value} (h : FiSt w wr cs t e n xs) (hb : Below wr.heap.size wr w') : FiSt w w' cs t e n xs :=
  ⟨own_later h.own hb, bel_trans h.bel hb, (hb.block _ (Array.getElem?_eq_some_iff.1 h.box).1).trans h.box⟩
theorem FiSt.cell {w wr : World} {cs : Array Value} {t e : TypeId} {n : Nat} {xs : List Value} (h : FiSt w wr cs t e n xs) (j : Nat) (u : Value) (hj : cs[j]? = some u) : wr.cell? ⟨w.heap.size, j, none⟩ = some u := by
  rw [cell_of_row _ _ _ _ _ (0, 0) h.box]
  exact hj
theorem FiSt.put {w wr : World} {cs : Array Value} {t e : TypeId} {n : Nat} {xs : List Value} (h : FiSt w wr cs t e n xs) (k : Nat) (u : Value) : FiSt w (wr.setCell ⟨w.heap.size + 1, k, none⟩ u) cs t e n (xs.set k u) :=
  ⟨(h.own.stored k u).1, h.bel.setCell (by simp) _, (Below.heap_setCell _ _ _ _ (by simp)).trans h.box⟩

set_option maxHeartbeats 1000000 in
theorem values_any (lo : Nat) (yw ya : Value) (us : List Nat) (W : Nat) (w : World) (h : Ly lo w yw ya us W) (hv : ∀ v ∈ us, v < 2 ^ W) :
    Calls Tryd.prog 51 #[.agg #[yw, ya, .int .i64 ((Sp.lay us W).length : Nat), .int .i64 (W : Nat), .int .i64 (us.length : Nat)]] w fun e w' => ∃ v, e = .returned v ∧ w'.ownsRow w.heap.size 27 1 v us.length (U64 us) ∧ Below w.heap.size w w' := by
  have hn := h.n
  have HN := hide (fun (k : Nat) (hk : k < us.length) (w' : World) (hb : Below w.heap.size w w') => lnth_any lo yw ya us W k (k + 1) 0 w' (h.later hb) hv (by omega) (by omega) (by omega))
  obtain ⟨pw, cw, pa, ca, rfl, rfl⟩ := h.row.form
  clear h hv
  obtain ⟨i0, hi, hz0, hz1, hz2⟩ := info_parts Ty.u64
  have Hb : Hid (i0.bytes = 8) := hz2
  clear hz2
  generalize (Sp.lay us W).length = len at *
  generalize hnn : us.length = n at *
  have HNN := hide hnn
  clear hnn
  go_enter Tryd.func51, Tryd.ntmps51
  go_wp2_with (at_make; (refine wpList_make_full _ rfl (.tmp 6) (.tmp 6) 22 rfl (w.heap.size + 1) 27 i0 (.int .u64 0) 1 Tryd.underlying22 hi hz0 hz1 .i64 .i64 _ _ n rfl rfl rfl rfl (by rw [Hb.out]; omega) (by unfold maxLen; omega) (by simp) ?_); intro w1 hown1 hg1)
  rw [made_u64s, show (w.alloc (Obj.cells #[Value.slice pw (len / 64 + 1) cw, Value.slice pa (len / 64 + 1) ca, Value.int IntKind.i64 (len : Int), Value.int IntKind.i64 (W : Int), Value.int IntKind.i64 (n : Int)] 70)).heap.size = w.heap.size + 1 from by simp] at hown1
  have HS : Hid (FiSt w w1 #[Value.slice pw (len / 64 + 1) cw, Value.slice pa (len / 64 + 1) ca, Value.int IntKind.i64 (len : Int), Value.int IntKind.i64 (W : Int), Value.int IntKind.i64 (n : Int)] 70 27 n (U64 (List.replicate n 0))) := by
    refine ⟨hown1, ((Below.refl _ _).alloc (Nat.le_refl _) _).grown hg1 (by simp) (by intro k hk; cases hk), ?_⟩
    exact (hg1.block w.heap.size (by simp) (by simp)).trans (heap_alloc_new _ _)
  clear hg1 hi hz0 hz1 hown1
  go_loopw [10] (fun i wr => ∃ (k : Nat) (zs : List Nat), k ≤ n ∧ i = .int .i64 k ∧ zs.length = n ∧ (∀ j, j < k → zs[j]? = us[j]?) ∧ FiSt w wr #[Value.slice pw (len / 64 + 1) cw, Value.slice pa (len / 64 + 1) ca, Value.int IntKind.i64 (len : Int), Value.int IntKind.i64 (W : Int), Value.int IntKind.i64 (n : Int)] 70 27 n (U64 zs)) (fun i _ => n - (intOf i).toNat)
  case atStart => exact ⟨0, List.replicate n 0, Nat.zero_le _, rfl, by simp, by intro j hj; omega, unhide HS⟩
  case round =>
    obtain ⟨k, zs, hk, rfl, hzl, hzs, hst⟩ := hrel
    clear HS
    by_cases hlt : k < n
    · have hc := unhide HN k (by omega) wr hst.bel
      rw [show ((k + 1 : Nat) : Int) = (k : Int) + 1 from by simp, show ((0 : Nat) : Int) = 0 from rfl] at hc
      have HC := hide hc
      have c0 := hst.cell 0 _ rfl
      have c1 := hst.cell 1 _ rfl
      have c2 := hst.cell 2 _ rfl
      have c3 := hst.cell 3 _ rfl
      have c4 := hst.cell 4 _ rfl
      have HST := hide hst
      have HZ := hide (And.intro hzl hzs)
      clear hst hc hzl hzs
      go_wp2_with fail
      refine (unhide HC).mono ?_
      rintro e w2 ⟨v, rfl, hnth, hb2⟩
      have hst2 := (unhide HST).later hb2
      obtain ⟨hzl, hzs⟩ := unhide HZ
      obtain ⟨old, hck⟩ : ∃ old : Nat, w2.cell? ⟨w.heap.size + 1, k, none⟩ = some (.int .u64 (old : Int)) := ⟨_, (hst2.own.cellAt k (by omega)).trans (U64_at zs k (by omega))⟩
      have hfk := hst2.own.frozenAt k
      have hnx := nth_one (by rw [unhide HNN]; exact hlt) hnth
      have HNX : Hid (∀ j, j < k + 1 → (zs.set k v)[j]? = us[j]?) := by
        intro j hj
        rw [List.getElem?_set]
        by_cases hjk : k = j
        · subst hjk
          rw [if_pos rfl, if_pos (by omega), hnx]
        · rw [if_neg hjk]
          exact hzs j (by omega)
      have HST2 := hide hst2
      have hzl2 : (zs.set k v).length = n := by simp [hzl]
      have HZL := hide hzl2
      clear hst2 hnth hb2 HZ hzs hnx hzl hzl2 HC HST c0 c1 c2 c3 c4
      go_wp2
      go_roundw
      case rel => exact ⟨k + 1, zs.set k v, by omega, by go_num, unhide HZL, unhide HNX, by rw [U64_set]; exact (unhide HST2).put k _⟩
      case measure => simp [intOf]; omega
    · have he : n = k := by omega
      subst he
      have hze : zs = us := by
        apply List.ext_getElem?
        intro j
        by_cases hj : j < n
        · exact hzs j hj
        · rw [List.getElem?_eq_none (by omega), List.getElem?_eq_none (by have := unhide HNN; omega)]
      subst hze
      have HO := hide hst
      clear hst hzs
      go_wp2
      go_ret
      exact ⟨_, rfl, own_base (unhide HO).own (by omega), (unhide HO).bel⟩

set_option maxHeartbeats 1000000 in
theorem places_gen (yw ya : Value) (len m q : Nat) (P : Nat → Int → Prop) (w : World) (hm : m ≤ 200) (hyw : ∃ p n c, yw = .slice p n c) (hya : ∃ p n c, ya = .slice p n c)
    (hP : ∀ i, i < m → ∀ w', Below w.heap.size w w' → Calls Tryd.prog 71 #[.agg #[yw, ya, .int .i64 (len : Nat), .int .i64 (m : Nat), .int .i64 (q : Nat)], .int .i64 (i : Nat)] w' fun e w'' => ∃ z : Int, e = .returned (.int .i64 z) ∧ P i z ∧ Below w'.heap.size w' w'') :
    Calls Tryd.prog 53 #[.agg #[yw, ya, .int .i64 (len : Nat), .int .i64 (m : Nat), .int .i64 (q : Nat)]] w fun e w' => ∃ v zs, e = .returned v ∧ zs.length = m ∧ (∀ j z, zs[j]? = some z → P j z) ∧ w'.ownsRow w.heap.size 3 1 v m (I64 zs) ∧ Below w.heap.size w w' := by
  have HN := hide hP
  obtain ⟨pw, nw, cw, rfl⟩ := hyw
  obtain ⟨pa, na, ca, rfl⟩ := hya
  clear hP
  obtain ⟨i0, hi, hz0, hz1, hz2⟩ := info_parts Ty.int
  have Hb : Hid (i0.bytes = 8) := hz2
  clear hz2
  go_enter Tryd.func53, Tryd.ntmps53
  go_wp2_with (at_make; (refine wpList_make_full _ rfl (.tmp 6) (.tmp 6) 23 rfl (w.heap.size + 1) 3 i0 (.int .i64 0) 1 Tryd.underlying23 hi hz0 hz1 .i64 .i64 _ _ m rfl rfl rfl rfl (by rw [Hb.out]; omega) (by unfold maxLen; omega) (by simp) ?_); intro w1 hown1 hg1)
  rw [made_i64s, show (w.alloc (Obj.cells #[Value.slice pw nw cw, Value.slice pa na ca, Value.int IntKind.i64 (len : Int), Value.int IntKind.i64 (m : Int), Value.int IntKind.i64 (q : Int)] 74)).heap.size = w.heap.size + 1 from by simp] at hown1
  have HS : Hid (FiSt w w1 #[Value.slice pw nw cw, Value.slice pa na ca, Value.int IntKind.i64 (len : Int), Value.int IntKind.i64 (m : Int), Value.int IntKind.i64 (q : Int)] 74 3 m (I64 (List.replicate m 0))) := by
    refine ⟨hown1, ((Below.refl _ _).alloc (Nat.le_refl _) _).grown hg1 (by simp) (by intro k hk; cases hk), ?_⟩
    exact (hg1.block w.heap.size (by simp) (by simp)).trans (heap_alloc_new _ _)
  clear hg1 hi hz0 hz1 hown1
  go_loopw [10] (fun i wr => ∃ (k : Nat) (zs : List Int), k ≤ m ∧ i = .int .i64 k ∧ zs.length = m ∧ (∀ j z, j < k → zs[j]? = some z → P j z) ∧ FiSt w wr #[Value.slice pw nw cw, Value.slice pa na ca, Value.int IntKind.i64 (len : Int), Value.int IntKind.i64 (m : Int), Value.int IntKind.i64 (q : Int)] 74 3 m (I64 zs)) (fun i _ => m - (intOf i).toNat)
  case atStart => exact ⟨0, List.replicate m 0, Nat.zero_le _, rfl, by simp, by intro j z hj; omega, unhide HS⟩
  case round =>
    obtain ⟨k, zs, hk, rfl, hzl, hzs, hst⟩ := hrel
    clear HS
    by_cases hlt : k < m
    · have HC := hide (unhide HN k hlt wr hst.bel)
      have c0 := hst.cell 0 _ rfl
      have c1 := hst.cell 1 _ rfl
      have c2 := hst.cell 2 _ rfl
      have c3 := hst.cell 3 _ rfl
      have c4 := hst.cell 4 _ rfl
      have HST := hide hst
      have HZ := hide (And.intro hzl hzs)
      clear hst hzl hzs
      go_wp2_with fail
      refine (unhide HC).mono ?_
      rintro e w2 ⟨v, rfl, hpv, hb2⟩
      have hst2 := (unhide HST).later hb2
      obtain ⟨hzl, hzs⟩ := unhide HZ
      obtain ⟨old, hck⟩ : ∃ old : Int, w2.cell? ⟨w.heap.size + 1, k, none⟩ = some (.int .i64 old) := ⟨_, (hst2.own.cellAt k (by omega)).trans (I64_at zs k (by omega))⟩
      have hfk := hst2.own.frozenAt k
      have HNX : Hid (∀ j z, j < k + 1 → (zs.set k v)[j]? = some z → P j z) := by
        intro j z hj hz
        rw [List.getElem?_set] at hz
        by_cases hjk : k = j
        · subst hjk
          rw [if_pos rfl, if_pos (by omega)] at hz
          rw [← Option.some.inj hz]
          exact hpv
        · rw [if_neg hjk] at hz
          exact hzs j z (by omega) hz
      have HST2 := hide hst2
      have hzl2 : (zs.set k v).length = m := by simp [hzl]
      have HZL := hide hzl2
      clear hst2 hb2 HZ hzs hpv hzl hzl2 HC HST c0 c1 c2 c3 c4
      go_wp2
      go_roundw
      case rel => exact ⟨k + 1, zs.set k v, by omega, by go_num, unhide HZL, unhide HNX, by rw [I64_set]; exact (unhide HST2).put k _⟩
      case measure => simp [intOf]; omega
    · have he : m = k := by omega
      subst he
      have HO := hide (And.intro hst (And.intro hzl hzs))
      clear hst hzs hzl
      go_wp2
      go_ret
      refine ⟨_, zs, rfl, (unhide HO).2.1, fun j z hz => (unhide HO).2.2 j z ?_ hz, own_base (unhide HO).1.own (by omega), (unhide HO).1.bel⟩
      have := (List.getElem?_eq_some_iff.1 hz).1
      have := (unhide HO).2.1
      omega
end Ld
end Go.Proofs.YtolkjadklbchfaaDoor
/- Walks of the program: place, whatever the bits. -/
open Go Go.RowKit
namespace Go.Proofs.YtolkjadklbchfaaDoor
namespace Ld
open Mem Rf Pr

theorem trail_zero (w : World) : Calls Tryd.prog 110 #[.int .u64 0] w fun e w' => e = .returned (.int .i64 64) ∧ w' = w := by
  go_enter Tryd.func110, Tryd.ntmps110
  go_wp2
  go_ret
  exact ⟨rfl, rfl⟩
theorem trail_tot (x : Nat) (hx : x < 18446744073709551616) : ∃ c : Nat, c ≤ 64 ∧ ∀ w, Bru w → Calls Tryd.prog 110 #[.int .u64 (x : Int)] w fun e w' => e = .returned (.int .i64 (c : Nat)) ∧ w' = w := by
  by_cases h0 : x = 0
  · subst h0
    exact ⟨64, Nat.le_refl _, fun w _ => trail_zero w⟩
  · obtain ⟨c, m, hc, _, h⟩ := trail_any x hx h0
    exact ⟨c, by omega, h⟩
/-- The lowest one taken away so often. -/
def off (x : Nat) : Nat → Nat
  | 0 => x
  | k + 1 => off x k &&& (off x k - 1)
theorem off_le (x k : Nat) : off x k ≤ x := by
  induction k with
  | zero => exact Nat.le_refl _
  | succ k ih => exact Nat.le_trans Nat.and_le_left ih
theorem and_pred_tot (y : Nat) (hy : y < 18446744073709551616) : bits BinOp.and IntKind.u64 (y : Int) (IntKind.u64.wrap ((y : Int) - 1)) = ((y &&& (y - 1) : Nat) : Int) := by
  by_cases h0 : y = 0
  · subst h0
    have e : IntKind.u64.wrap (((0 : Nat) : Int) - 1) = ((18446744073709551615 : Nat) : Int) := by rw [IntKind.wrap_u64]; rfl
    rw [e, u64_and_nat 0 _ (by omega) (by omega)]
    simp
  · have e : IntKind.u64.wrap ((y : Int) - 1) = ((y - 1 : Nat) : Int) := by rw [IntKind.wrap_u64]; omega
    rw [e, u64_and_nat y _ hy (by omega)]

set_option maxHeartbeats 1000000 in
theorem oneOf_tot (x k : Nat) (hx : x < 18446744073709551616) (hk : k ≤ 1000000) : ∃ c : Nat, c ≤ 64 ∧ ∀ w, Bru w →
    Calls Tryd.prog 108 #[.int .u64 (x : Int), .int .i64 (k : Nat)] w fun e w' => e = .returned (.int .i64 (c : Nat)) ∧ w' = w := by
  obtain ⟨c, hc, hcall⟩ := trail_tot (off x k) (Nat.lt_of_le_of_lt (off_le x k) hx)
  refine ⟨c, hc, fun w hT => ?_⟩
  have HC := hide (hcall w hT)
  clear hcall hT
  go_enter Tryd.func108, Tryd.ntmps108
  go_wp2
  go_loop [0, 6] (fun yy ii => ∃ i : Nat, i ≤ k ∧ ii = .int .i64 (i : Nat) ∧ yy = .int .u64 (off x i : Nat)) (fun _ ii => k - (intOf ii).toNat)
  case atStart => exact ⟨0, Nat.zero_le _, rfl, rfl⟩
  case round =>
    obtain ⟨i, hi, rfl, rfl⟩ := hrel
    have hy : off x i < 18446744073709551616 := Nat.lt_of_le_of_lt (off_le x i) hx
    by_cases hlt : i < k
    · have e1 := and_pred_tot (off x i) hy
      have HE : Hid (off x (i + 1) = off x i &&& (off x i - 1)) := rfl
      generalize hz : off x i &&& (off x i - 1) = z at *
      generalize off x i = y at *
      clear hz
      go_wp2
      go_round
      case rel => exact ⟨i + 1, by omega, by go_num, by rw [unhide HE]⟩
      case measure => simp [intOf]; omega
    · have he : k = i := by omega
      subst he
      generalize off x k = y at *
      go_wp2_with (go_at_call 110; refine at_same (unhide HC) ?_)
      go_ret
      exact ⟨rfl, rfl⟩

set_option maxHeartbeats 1000000 in
theorem one_tot (lo : Nat) (yw ya : Value) (l : List Bool) (k : Nat) (w : World) (h : RowIs lo w yw ya l) (hn : l.length ≤ 100000) (hk : k ≤ 1000000) (hT : Bru w) :
    Calls Tryd.prog 101 #[.agg #[yw, ya, .int .i64 (l.length : Nat)], .int .i64 (k : Nat)] w fun e w' => ∃ p : Nat, e = .returned (.int .i64 (p : Nat)) ∧ p ≤ l.length + 128 ∧ Below w.heap.size w w' := by
  have HSE := hide (fun (o2 o1 : Obj) (ho1 : o1 = .cells #[yw, ya, .int .i64 (l.length : Nat)] 68) (ho2 : o2 = .cells #[.int .i64 (k : Nat)] 3) =>
    search_rowOne1 (.pointer (some ⟨w.heap.size, 0, none⟩)) (.pointer (some ⟨w.heap.size + 1, 0, none⟩)) (l.length / 64 + 1) (fun i => decide (k < Sp.aheadN (Sp.words l) i)) ((w.alloc o1).alloc o2) (by omega)
      (fun i j hij hj hi => by
        have := Sp.aheadN_mono (Sp.words l) hij (by rw [Sp.words_len]; omega)
        simp at hi ⊢
        omega)
      (fun i hi w' hb => one1_any lo yw ya l k i w.heap.size (w.heap.size + 1) w' (((h.alloc o1).alloc o2).later hb) (by omega) hi (later_cell (by rw [ho1]; exact box_row w _ _ _ _ _ 1 _ rfl) hb) (later_cell (by rw [ho2]; exact box_num w _ _ _) hb)))
  have HH := hide h
  have HT := hide hT
  obtain ⟨pw, cw, pa, ca, rfl, rfl⟩ := h.form
  clear h hT
  go_enter Tryd.func101, Tryd.ntmps101
  go_wp2_with fail
  refine (unhide HSE _ _ rfl rfl).mono ?_
  rintro e w1 ⟨r, hr, rfl, h1, h2, hb1⟩
  have hr0 : 0 < r := by
    apply Nat.pos_of_ne_zero
    intro h0
    have := h2 0 (by omega) (by omega)
    rw [Sp.aheadN_zero] at this
    simp at this
  obtain ⟨q, rfl⟩ : ∃ q, r = q + 1 := ⟨r - 1, by omega⟩
  have hq : q < l.length / 64 + 1 := by omega
  have hle : Sp.aheadN (Sp.words l) q ≤ k := by
    have := h1 q (by omega)
    simpa using this
  have hb2 : Below w.heap.size w w1 := bel_trans (bel_trans (alloc_bel _ _) (alloc_bel _ _)) hb1
  have hrow := (unhide HH).later hb2
  obtain ⟨b1, o1, c1, x, hs1, hcx, hxx, hx64⟩ := word_cell hrow q hq
  obtain ⟨b2, o2, c2, hs2, hca⟩ := ahead_cell hrow q hq
  simp only [Value.slice.injEq] at hs1 hs2
  obtain ⟨rfl, _, rfl⟩ := hs1
  obtain ⟨rfl, _, rfl⟩ := hs2
  have hd0 := later_cell (box_row w (.slice (some ⟨b1, o1, none⟩) (l.length / 64 + 1) cw) (.slice (some ⟨b2, o2, none⟩) (l.length / 64 + 1) ca) (.int .i64 (l.length : Nat)) 68 (.cells #[.int .i64 (k : Nat)] 3) 0 _ rfl) hb1
  have hd1 := later_cell (box_row w (.slice (some ⟨b1, o1, none⟩) (l.length / 64 + 1) cw) (.slice (some ⟨b2, o2, none⟩) (l.length / 64 + 1) ca) (.int .i64 (l.length : Nat)) 68 (.cells #[.int .i64 (k : Nat)] 3) 1 _ rfl) hb1
  have hdk := later_cell (box_num w (.cells #[.slice (some ⟨b1, o1, none⟩) (l.length / 64 + 1) cw, .slice (some ⟨b2, o2, none⟩) (l.length / 64 + 1) ca, .int .i64 (l.length : Nat)] 68) (.int .i64 (k : Nat)) 3) hb1
  have hsm := aheadN_small (Sp.words l) q (by rw [Sp.words_len]; omega) (by rw [Sp.words_len]; omega)
  obtain ⟨c, hc64, hco⟩ := oneOf_tot x (k - Sp.aheadN (Sp.words l) q) hx64 (by omega)
  have HC := hide (fun n => hco (w1.drewN n) ((unhide HT).below (hb2.trans (drewN_bel w1 n |>.mono hb2.size)) (unhide HT).1))
  have HB := hide hb2
  generalize hak : Sp.aheadN (Sp.words l) q = ak at *
  have ek : ((k : Int) - (ak : Int)) = ((k - ak : Nat) : Int) := by omega
  clear HSE HH hb1 hb2 hrow h1 h2 hxx hak hco
  go_wp2_with fail
  go_quiet ((go_at_call 108; first | exact Calls.quiet_of_same (unhide HC _) | (rw [ek]; exact Calls.quiet_of_same (unhide HC _))))
  go_wp2
  go_ret
  exact ⟨64 * q + c, ret_int (by go_num), by omega, bel_trans (unhide HB) (drewN_bel _ _)⟩
end Ld
end Go.Proofs.YtolkjadklbchfaaDoor
/- Walks of the program: place and Places, whatever the bits. -/
open Go Go.RowKit
namespace Go.Proofs.YtolkjadklbchfaaDoor
namespace Ld
open Mem Rf Pr

set_option maxHeartbeats 1000000 in
theorem mplace_tot (lo : Nat) (yw ya : Value) (l : List Bool) (n m i : Nat) (w : World) (h : RowIs lo w yw ya l) (hl : l.length = mlen n m) (hn : n ≤ 200) (hm : m ≤ n) (hi : i < m) (hT : Bru w) :
    Calls Tryd.prog 71 #[.agg #[yw, ya, .int .i64 (mlen n m : Nat), .int .i64 (m : Nat), .int .i64 (Sp.pow n m : Nat)], .int .i64 (i : Nat)] w fun e w' => ∃ z : Int, e = .returned (.int .i64 z) ∧ True ∧ Below w.heap.size w w' := by
  have hq := pow_small (n := n) (m := m) (by omega)
  have hsm := mlen_small (n := n) (m := m) hn (by omega)
  have hst : m * Sp.pow n m ≤ l.length := by rw [hl]; exact Nat.le_add_right _ _
  have hcl : (l.take (m * Sp.pow n m)).count true ≤ m * Sp.pow n m := Nat.le_trans List.count_le_length (List.length_take_le _ _)
  have hmq : m * Sp.pow n m ≤ 200 * 10 := Nat.mul_le_mul (by omega) hq
  have hiq : i * Sp.pow n m ≤ 200 * 10 := Nat.mul_le_mul (by omega) hq
  have HA := hide (fun (w' : World) (hb : Below w.heap.size w w') => ahead_any lo yw ya l (m * Sp.pow n m) w' (h.later hb) (by omega) hst)
  have HO := hide (fun (w' : World) (hb : Below w.heap.size w w') => one_tot lo yw ya l ((l.take (m * Sp.pow n m)).count true + i) w' (h.later hb) (by omega) (by omega) (hT.below hb hT.1))
  have hib : ∀ b, b < Sp.pow n m → i * Sp.pow n m + b < l.length := by
    intro b hb
    have : (i + 1) * Sp.pow n m ≤ m * Sp.pow n m := Nat.mul_le_mul_right _ hi
    rw [Nat.add_mul] at this
    omega
  have HBT : Hid (∀ (b : Nat), b < Sp.pow n m → ∀ (w' : World), Below w.heap.size w w' → ∃ d : Bool, Calls Tryd.prog 102 #[.agg #[yw, ya, .int .i64 (l.length : Nat)], .int .i64 ((i * Sp.pow n m + b : Nat) : Int)] w' fun e w2 => e = .returned (.bool d) ∧ Below w'.heap.size w' w2) := by
    intro b hb w' hbl
    have hlt := hib b hb
    exact ⟨l[i * Sp.pow n m + b], rbit_any lo yw ya l (i * Sp.pow n m + b) _ w' (h.later hbl) (by omega) (List.getElem?_eq_getElem hlt)⟩
  obtain ⟨pw, cw, pa, ca, rfl, rfl⟩ := h.form
  clear h hst hT hib
  rw [hl] at HA HO HBT
  rw [hl]
  clear hl
  generalize mlen n m = len at *
  generalize Sp.pow n m = q at *
  have hmm : m ≤ 200 := by omega
  generalize (l.take (m * q)).count true = cs at *
  have hp1 : (0 : Int) ≤ (m : Int) * (q : Int) ∧ (m : Int) * (q : Int) ≤ 2000 := by rw [show (m : Int) * (q : Int) = ((m * q : Nat) : Int) from by simp]; omega
  have hp2 : (0 : Int) ≤ (i : Int) * (q : Int) ∧ (i : Int) * (q : Int) ≤ 2000 := by rw [show (i : Int) * (q : Int) = ((i * q : Nat) : Int) from by simp]; omega
  obtain ⟨hp1a, hp1b⟩ := hp1
  obtain ⟨hp2a, hp2b⟩ := hp2
  rw [show ((m * q : Nat) : Int) = (m : Int) * (q : Int) from by simp] at HA
  rw [show ((cs + i : Nat) : Int) = (cs : Int) + (i : Int) from by simp] at HO
  have HBX : Hid (∀ (w' : World), Below (w.alloc (.cells #[.slice pw (len / 64 + 1) cw, .slice pa (len / 64 + 1) ca, .int .i64 (len : Nat), .int .i64 (m : Nat), .int .i64 (q : Nat)] 74)).heap.size (w.alloc (.cells #[.slice pw (len / 64 + 1) cw, .slice pa (len / 64 + 1) ca, .int .i64 (len : Nat), .int .i64 (m : Nat), .int .i64 (q : Nat)] 74)) w' →
      w'.cell? ⟨w.heap.size, 0, none⟩ = some (.slice pw (len / 64 + 1) cw) ∧ w'.cell? ⟨w.heap.size, 1, none⟩ = some (.slice pa (len / 64 + 1) ca) ∧ w'.cell? ⟨w.heap.size, 2, none⟩ = some (.int .i64 (len : Nat)) ∧ w'.cell? ⟨w.heap.size, 3, none⟩ = some (.int .i64 (m : Nat)) ∧ w'.cell? ⟨w.heap.size, 4, none⟩ = some (.int .i64 (q : Nat))) :=
    fun w' hb => ⟨later_cell (box5 w _ _ 0 _ rfl) hb, later_cell (box5 w _ _ 1 _ rfl) hb, later_cell (box5 w _ _ 2 _ rfl) hb, later_cell (box5 w _ _ 3 _ rfl) hb, later_cell (box5 w _ _ 4 _ rfl) hb⟩
  have hwr : IntKind.i64.wrap ((cs : Int) + (i : Int)) = (cs : Int) + (i : Int) := wrap_i64_of (by omega) (by omega)
  have HD0 : Hid (Below (w.alloc (.cells #[.slice pw (len / 64 + 1) cw, .slice pa (len / 64 + 1) ca, .int .i64 (len : Nat), .int .i64 (m : Nat), .int .i64 (q : Nat)] 74)).heap.size (w.alloc (.cells #[.slice pw (len / 64 + 1) cw, .slice pa (len / 64 + 1) ca, .int .i64 (len : Nat), .int .i64 (m : Nat), .int .i64 (q : Nat)] 74)) (w.alloc (.cells #[.slice pw (len / 64 + 1) cw, .slice pa (len / 64 + 1) ca, .int .i64 (len : Nat), .int .i64 (m : Nat), .int .i64 (q : Nat)] 74)).drew) := drew_bel _
  go_enter Tryd.func71, Tryd.ntmps71
  go_wp2_with fail
  go_region_held3 (fun w' => w'.cell? ⟨w.heap.size, 0, none⟩ = some (.slice pw (len / 64 + 1) cw) ∧ w'.cell? ⟨w.heap.size, 1, none⟩ = some (.slice pa (len / 64 + 1) ca) ∧ w'.cell? ⟨w.heap.size, 2, none⟩ = some (.int .i64 (len : Nat))) (go_keep)
    (first
    | (go_at_call 99; refine (unhide HA _ (bel_trans (alloc_bel _ _) (unhide HD0))).mono ?_; rintro e v1 ⟨rfl, hb2⟩; have hd := bel_trans (unhide HD0) hb2; obtain ⟨d0, d1, d2, _, _⟩ := unhide HBX _ hd; have HD0 := hide hd; clear hb2 hd)
    | (go_at_call 101; refine (unhide HO _ (bel_trans (alloc_bel _ _) (unhide HD0))).mono ?_; rintro e v2 ⟨pp, rfl, hpp, hb2⟩; have hd := bel_trans (unhide HD0) hb2; obtain ⟨d0, d1, d2, _, _⟩ := unhide HBX _ hd; have HD0 := hide hd; clear hb2 hd))
  obtain ⟨c0, c1, c2, c3, c4⟩ := unhide HBX _ (unhide HD0)
  clear hwr
  go_wp2
  go_loopw [7, 33] (fun pz ii wr => ∃ (b : Nat) (z : Int), b ≤ q ∧ ii = .int .i64 (b : Nat) ∧ pz = .int .i64 z ∧ Below (w.alloc (.cells #[.slice pw (len / 64 + 1) cw, .slice pa (len / 64 + 1) ca, .int .i64 (len : Nat), .int .i64 (m : Nat), .int .i64 (q : Nat)] 74)).heap.size (w.alloc (.cells #[.slice pw (len / 64 + 1) cw, .slice pa (len / 64 + 1) ca, .int .i64 (len : Nat), .int .i64 (m : Nat), .int .i64 (q : Nat)] 74)) wr) (fun _ ii _ => q - (intOf ii).toNat)
  case atStart => exact ⟨0, _, Nat.zero_le _, rfl, rfl, unhide HD0⟩
  case round =>
    obtain ⟨b, z, hb, rfl, rfl, hbl⟩ := hrel
    clear c0 c1 c2 c3 c4
    by_cases hlt : b < q
    · obtain ⟨c0, c1, c2, c3, c4⟩ := unhide HBX _ hbl
      obtain ⟨d, hbt⟩ := unhide HBT b hlt wr (bel_trans (alloc_bel _ _) hbl)
      rw [show ((i * q + b : Nat) : Int) = (i : Int) * (q : Int) + (b : Int) from by simp] at hbt
      have HBB := hide hbt
      have HBL := hide hbl
      clear hbt hbl
      have hpb : (2 : Int) ^ b ≤ 1024 := by
        have : 2 ^ b ≤ 2 ^ 10 := Nat.pow_le_pow_right (by omega) (by omega)
        rw [show (2 : Int) ^ b = ((2 ^ b : Nat) : Int) from by simp]
        omega
      have hpb0 : (0 : Int) ≤ (2 : Int) ^ b := by rw [show (2 : Int) ^ b = ((2 ^ b : Nat) : Int) from by simp]; exact Int.natCast_nonneg _
      cases d with
      | true =>
        go_wp2_with fail
        refine (unhide HBB).mono ?_
        rintro e w4 ⟨rfl, hb4⟩
        have HB4 := hide (bel_trans (unhide HBL) hb4)
        clear hb4 HBB
        go_wp2
        go_roundw
        case rel => exact ⟨b + 1, _, by omega, by go_num, rfl, unhide HB4⟩
        case measure => simp [intOf]; omega
      | false =>
        go_wp2_with fail
        refine (unhide HBB).mono ?_
        rintro e w4 ⟨rfl, hb4⟩
        have HB4 := hide (bel_trans (unhide HBL) hb4)
        clear hb4 HBB
        go_wp2
        go_roundw
        case rel => exact ⟨b + 1, _, by omega, by go_num, rfl, unhide HB4⟩
        case measure => simp [intOf]; omega
    · have he : b = q := by omega
      subst he
      have HBL := hide (bel_trans (alloc_bel _ _) hbl)
      clear hbl
      go_wp2
      go_ret
      exact ⟨z, rfl, trivial, unhide HBL⟩

/-- Places: whatever the bits; and the marks, if they are those of marks. -/
theorem places_any (lo : Nat) (yw ya : Value) (l : List Bool) (n m : Nat) (w : World) (h : RowIs lo w yw ya l) (hl : l.length = mlen n m) (hn : n ≤ 200) (hm : m ≤ n) (hT : Bru w) :
    Calls Tryd.prog 53 #[.agg #[yw, ya, .int .i64 (mlen n m : Nat), .int .i64 (m : Nat), .int .i64 (Sp.pow n m : Nat)]] w fun e w' => ∃ v zs, e = .returned v ∧ zs.length = m ∧ (∀ ms : List Nat, Sp.Rises ms → (∀ x ∈ ms, x < n) → ms.length = m → Sp.marks n ms = l → zs = NI ms) ∧ w'.ownsRow w.heap.size 3 1 v m (I64 zs) ∧ Below w.heap.size w w' := by
  obtain ⟨pw, cw, pa, ca, hw, ha⟩ := h.form
  by_cases hex : ∃ ms : List Nat, Sp.Rises ms ∧ (∀ x ∈ ms, x < n) ∧ ms.length = m ∧ Sp.marks n ms = l
  · obtain ⟨ms, h1, h2, h3, h4⟩ := hex
    subst h4
    subst h3
    have hmk : Mk lo w yw ya n ms := ⟨h, h1, h2, hn, hm⟩
    refine (places_gen yw ya (mlen n ms.length) ms.length (Sp.pow n ms.length) (fun i z => (NI ms)[i]? = some z) w (by omega) ⟨_, _, _, hw⟩ ⟨_, _, _, ha⟩ ?_).mono ?_
    · intro i hi w' hb
      have := mplace_any lo yw ya n ms i ms[i] w' (hmk.later hb) (List.getElem?_eq_getElem hi) (hT.below hb hT.1)
      rw [marks_mlen] at this
      exact this.mono fun e w'' ⟨he, hb2⟩ => ⟨_, he, by simp [NI, hi], hb2⟩
    · rintro e w' ⟨v, zs, rfl, hzl, hz, ho, hb⟩
      have hzs : zs = NI ms := by
        apply List.ext_getElem?
        intro j
        by_cases hj : j < zs.length
        · have := hz j _ (List.getElem?_eq_getElem hj)
          rw [this, List.getElem?_eq_getElem hj]
        · rw [List.getElem?_eq_none (by omega), List.getElem?_eq_none (by simp [NI]; omega)]
      refine ⟨v, zs, rfl, hzl, fun ms' g1 g2 g3 g4 => ?_, ho, hb⟩
      rw [hzs]
      have hr' : RowIs lo w yw ya (Sp.marks n ms') := by rw [g4]; exact h
      congr 1
      apply List.ext_getElem?
      intro j
      by_cases hj : j < ms.length
      · have hj' : j < ms'.length := by omega
        have a1 := Sp.marks_pos n ms h1 h2 j hj
        have a2 := Sp.marks_pos n ms' g1 g2 j hj'
        rw [g4, g3] at a2
        have a3 := a1.uniq a2
        have b1 := fun b hb => Sp.marks_low n ms j b hj hb
        have b2 := fun b hb => Sp.marks_low n ms' j b hj' hb
        rw [g3, g4] at b2
        have hlow : ms[j] % 2 ^ Sp.pow n ms.length = ms'[j] % 2 ^ Sp.pow n ms.length := by
          apply Nat.eq_of_testBit_eq
          intro b
          rw [Nat.testBit_mod_two_pow, Nat.testBit_mod_two_pow]
          by_cases hb : b < Sp.pow n ms.length
          · have := (b1 b hb).symm.trans (b2 b hb)
            rw [Option.some.inj this]
          · simp [hb]
        have e1 := Nat.div_add_mod ms[j] (2 ^ Sp.pow n ms.length)
        have e2 := Nat.div_add_mod ms'[j] (2 ^ Sp.pow n ms.length)
        have hd : ms[j] / 2 ^ Sp.pow n ms.length = ms'[j] / 2 ^ Sp.pow n ms.length := by omega
        rw [List.getElem?_eq_getElem hj, List.getElem?_eq_getElem hj', ← e1, ← e2, hd, hlow]
      · rw [List.getElem?_eq_none (by omega), List.getElem?_eq_none (by omega)]
  · refine (places_gen yw ya (mlen n m) m (Sp.pow n m) (fun _ _ => True) w (by omega) ⟨_, _, _, hw⟩ ⟨_, _, _, ha⟩ ?_).mono ?_
    · intro i hi w' hb
      exact mplace_tot lo yw ya l n m i w' (h.later hb) hl hn hm hi (hT.below hb hT.1)
    · rintro e w' ⟨v, zs, rfl, hzl, _, ho, hb⟩
      exact ⟨v, zs, rfl, hzl, fun ms' g1 g2 g3 g4 => absurd ⟨ms', g1, g2, g3, g4⟩ hex, ho, hb⟩
end Ld
end Go.Proofs.YtolkjadklbchfaaDoor
