import Derived.Test.YtolkjadklbchfaaGreatDoorR1
/- Walks: the document's Count, Least, Nth. -/
open Go Go.RowKit
namespace Go.Proofs.YtolkjadklbchfaaGreatDoor
namespace Rf
open Mem

theorem later_c {w w' : World} {b o : Nat} {u : Value} (h : w.cell? ⟨b, o, none⟩ = some u) (hb : Below w.heap.size w w') : w'.cell? ⟨b, o, none⟩ = some u :=
  (hb.cell (p := ⟨b, o, none⟩) (World.block_lt_of_cell? _ _ h)).trans h
theorem bx (w : World) (cs : Array Value) (t : TypeId) (j : Nat) (u : Value) (h : cs[j]? = some u) : (w.alloc (.cells cs t)).cell? ⟨w.heap.size, j, none⟩ = some u := by
  rw [cell_of_row _ _ _ _ _ (0, 0) (heap_alloc_new _ _)]
  exact h

set_option maxHeartbeats 1000000 in
theorem rcount_any (B : Nat) (p : Option Addr) (n c : Nat) (M : Value) (vs : List Nat) (l r : Int) (lo hi : Nat) (w : World) (hr : Rd B w (.slice p n c) (U64 vs)) (hn : n ≤ 200) (hB : B ≤ w.heap.size) :
    Calls Tryz.prog 46 #[.agg #[.slice p n c, M], .int .i64 l, .int .i64 r, .int .u64 (lo : Nat), .int .u64 (hi : Nat)] w fun e w' => ∃ a f : Int, e = .returned (.tuple #[.int .i64 a, .int .i64 f]) ∧ Sp.CountRes vs l r lo hi a f ∧ Below w.heap.size w w' := by
  obtain ⟨hl, hlc⟩ := hr.len
  rw [U64_len] at hl
  by_cases hp : Sp.IsPart vs l r
  · have HP := hide (fun (o : Obj) => rbad_yes p n c M vs l r (w.alloc o) hl hp)
    have HBX : Hid (∀ (w' : World), Below (w.alloc (.cells #[.slice p n c, M] 52)).heap.size (w.alloc (.cells #[.slice p n c, M] 52)) w' → w'.cell? ⟨w.heap.size, 0, none⟩ = some (.slice p n c) ∧ Rd B w' (.slice p n c) (U64 vs) ∧ Below w.heap.size w w') :=
      fun w' hb => ⟨later_c (bx w _ _ 0 _ rfl) hb, hr.below (((alloc_b w _).mono hB).trans (hb.mono (by simp; omega))), b_trans (alloc_b _ _) hb⟩
    obtain ⟨i, j, rfl, rfl, hij, hj⟩ := hp.nat
    by_cases hk : lo ≤ hi
    · have HR : Hid (Sp.CountRes vs (i : Int) (j : Int) lo hi ((Sp.sl vs i j).countP (fun v => decide (lo ≤ v) && decide (v ≤ hi)) : Nat) 0) := Or.inr (Or.inr ⟨hp, hk, by rw [Int.toNat_natCast, Int.toNat_natCast], rfl⟩)
      have hki : ¬ ((hi : Int) < (lo : Int)) := by omega
      have HL := hide hl
      have hjn : j ≤ n := by omega
      clear hr hl hp hj hk
      go_enter Tryz.func46, Tryz.ntmps46
      go_wp2_with fail
      refine (unhide HP _).mono ?_
      rintro e w1 ⟨rfl, hb1⟩
      obtain ⟨c0, hrd, hb⟩ := unhide HBX _ hb1
      have HRD := hide hrd
      have HB := hide hb
      clear hb1 hrd hb HP HBX
      go_wp2
      go_loop [13, 14] (fun aa kk => ∃ k : Nat, i ≤ k ∧ k ≤ j ∧ kk = .int .i64 (k : Nat) ∧ aa = .int .i64 ((Sp.sl vs i k).countP (fun v => decide (lo ≤ v) && decide (v ≤ hi)) : Nat)) (fun _ kk => j - (intOf kk).toNat)
      case atStart => exact ⟨i, Nat.le_refl _, by omega, rfl, by rw [Sp.sl_nil]; rfl⟩
      case round =>
        obtain ⟨k, hik, hk, rfl, rfl⟩ := hrel
        by_cases hlt : k < j
        · have hkl : k < vs.length := by rw [← unhide HL]; omega
          have hcl : (Sp.sl vs i k).countP (fun v => decide (lo ≤ v) && decide (v ≤ hi)) ≤ 200 := Nat.le_trans List.countP_le_length (by rw [Sp.sl_len vs (by omega)]; omega)
          obtain ⟨b, o, rfl, hb, hc⟩ := (unhide HRD).at k _ (U64_at vs k hkl)
          have hs := sl_count_snoc vs (fun v => decide (lo ≤ v) && decide (v ≤ hi)) i k hik hkl
          generalize vs[k] = x at *
          by_cases h1 : lo ≤ x
          · have h1i : (lo : Int) ≤ (x : Int) := by omega
            by_cases h2 : x ≤ hi
            · have h2i : (x : Int) ≤ (hi : Int) := by omega
              rw [if_pos (by simp [h1, h2])] at hs
              have HS := hide hs
              generalize (Sp.sl vs i k).countP (fun v => decide (lo ≤ v) && decide (v ≤ hi)) = q at *
              clear hs h1 h2
              go_wp2
              go_round
              case rel => exact ⟨k + 1, by omega, by omega, by go_num, by rw [unhide HS]; go_num⟩
              case measure => simp [intOf]; omega
            · have h2i : ¬ (x : Int) ≤ (hi : Int) := by omega
              rw [if_neg (by simp [h1, h2]), Nat.add_zero] at hs
              have HS := hide hs
              generalize (Sp.sl vs i k).countP (fun v => decide (lo ≤ v) && decide (v ≤ hi)) = q at *
              clear hs h1 h2
              go_wp2
              go_round
              case rel => exact ⟨k + 1, by omega, by omega, by go_num, by rw [unhide HS]; rfl⟩
              case measure => simp [intOf]; omega
          · have h1i : ¬ (lo : Int) ≤ (x : Int) := by omega
            rw [if_neg (by simp [h1]), Nat.add_zero] at hs
            have HS := hide hs
            generalize (Sp.sl vs i k).countP (fun v => decide (lo ≤ v) && decide (v ≤ hi)) = q at *
            clear hs h1
            go_wp2
            go_round
            case rel => exact ⟨k + 1, by omega, by omega, by go_num, by rw [unhide HS]; rfl⟩
            case measure => simp [intOf]; omega
        · have he : k = j := by omega
          subst he
          generalize (Sp.sl vs i k).countP (fun v => decide (lo ≤ v) && decide (v ≤ hi)) = q at *
          go_wp2
          go_ret2
          exact ⟨q, 0, rfl, unhide HR, unhide HB⟩
    · have HR : Hid (Sp.CountRes vs (i : Int) (j : Int) lo hi 0 4) := Or.inr (Or.inl ⟨hp, by omega, rfl, rfl⟩)
      have hki : (hi : Int) < (lo : Int) := by omega
      clear hr hl hp hij hj hk
      go_enter Tryz.func46, Tryz.ntmps46
      go_wp2_with fail
      refine (unhide HP _).mono ?_
      rintro e w1 ⟨rfl, hb1⟩
      have HB := hide (b_trans (alloc_b _ _) hb1)
      clear hb1
      go_wp2
      go_ret2
      exact ⟨0, 4, rfl, unhide HR, unhide HB⟩
  · have HP := hide (fun (o : Obj) => rbad_no p n c M vs l r (w.alloc o) hl hp)
    have HR : Hid (Sp.CountRes vs l r lo hi 0 3) := Or.inl ⟨hp, rfl, rfl⟩
    clear hr hl hp
    go_enter Tryz.func46, Tryz.ntmps46
    go_wp2_with fail
    refine (unhide HP _).mono ?_
    rintro e w1 ⟨rfl, hb1⟩
    have HB := hide (b_trans (alloc_b _ _) hb1)
    clear hb1
    go_wp2
    go_ret2
    exact ⟨0, 3, rfl, unhide HR, unhide HB⟩

set_option maxHeartbeats 1000000 in
theorem rleast_any (B : Nat) (p : Option Addr) (n c : Nat) (M : Value) (vs : List Nat) (l r : Int) (w : World) (hr : Rd B w (.slice p n c) (U64 vs)) (hn : n ≤ 200) (hB : B ≤ w.heap.size) :
    Calls Tryz.prog 42 #[.agg #[.slice p n c, M], .int .i64 l, .int .i64 r] w fun e w' => ∃ a f : Int, e = .returned (.tuple #[.int .i64 a, .int .i64 f]) ∧ Sp.LeastRes vs l r a f ∧ Below w.heap.size w w' := by
  obtain ⟨hl, hlc⟩ := hr.len
  rw [U64_len] at hl
  by_cases hp : Sp.IsPart vs l r
  · have HP := hide (fun (o : Obj) => rbad_yes p n c M vs l r (w.alloc o) hl hp)
    have HBX : Hid (∀ (w' : World), Below (w.alloc (.cells #[.slice p n c, M] 52)).heap.size (w.alloc (.cells #[.slice p n c, M] 52)) w' → w'.cell? ⟨w.heap.size, 0, none⟩ = some (.slice p n c) ∧ w'.cell? ⟨w.heap.size, 1, none⟩ = some M ∧ Rd B w' (.slice p n c) (U64 vs) ∧ Below w.heap.size w w') :=
      fun w' hb => ⟨later_c (bx w _ _ 0 _ rfl) hb, later_c (bx w _ _ 1 _ rfl) hb, hr.below (((alloc_b w _).mono hB).trans (hb.mono (by simp; omega))), b_trans (alloc_b _ _) hb⟩
    obtain ⟨i, j, rfl, rfl, hij, hj⟩ := hp.nat
    have HR : Hid (Sp.LeastRes vs (i : Int) (j : Int) (Sp.leastTo vs i (j - 1 - i) : Nat) 0) := Or.inr ⟨hp, by rw [Int.toNat_natCast, Int.toNat_natCast], rfl⟩
    have HL := hide hl
    have hjn : j ≤ n := by omega
    clear hr hl hp hj
    go_enter Tryz.func42, Tryz.ntmps42
    go_wp2_with fail
    refine (unhide HP _).mono ?_
    rintro e w1 ⟨rfl, hb1⟩
    have HB1 := hide hb1
    clear hb1 HP
    go_wp2
    go_loopw [9, 10] (fun aa kk wr => ∃ k : Nat, i ≤ k ∧ k ≤ j ∧ kk = .int .i64 (k : Nat) ∧ aa = .int .i64 (Sp.leastTo vs i (k - 1 - i) : Nat) ∧ Below (w.alloc (.cells #[.slice p n c, M] 52)).heap.size (w.alloc (.cells #[.slice p n c, M] 52)) wr) (fun _ kk _ => j - (intOf kk).toNat)
    case atStart => exact ⟨i, Nat.le_refl _, by omega, rfl, by rw [show i - 1 - i = 0 from by omega]; rfl, unhide HB1⟩
    case round =>
      obtain ⟨k, hik, hk, rfl, rfl, hbw⟩ := hrel
      obtain ⟨c0, c1, hrd, hb⟩ := unhide HBX _ hbw
      have hin := Sp.leastTo_in vs i (k - 1 - i)
      by_cases hlt : k < j
      · have hkl : k < vs.length := by rw [← unhide HL]; omega
        have hal : Sp.leastTo vs i (k - 1 - i) < vs.length := by rw [← unhide HL]; omega
        obtain ⟨b, o, hpe, _, hc⟩ := hrd.at k _ (U64_at vs k hkl)
        subst hpe
        obtain ⟨b2, o2, hpe2, _, hc2⟩ := hrd.at _ _ (U64_at vs _ hal)
        simp only [Option.some.injEq, Addr.mk.injEq] at hpe2
        obtain ⟨rfl, rfl, _⟩ := hpe2
        have hnx : Sp.leastTo vs i (k + 1 - 1 - i) = if vs[k] < vs[Sp.leastTo vs i (k - 1 - i)] then k else Sp.leastTo vs i (k - 1 - i) := by
          by_cases hki : k = i
          · subst hki
            simp [show k - 1 - k = 0 from by omega, Sp.leastTo]
          · rw [show k + 1 - 1 - i = (k - 1 - i) + 1 from by omega, Sp.leastTo, show i + 1 + (k - 1 - i) = k from by omega]
            simp [hkl, hal]
        have hakn : Sp.leastTo vs i (k - 1 - i) < n := by rw [unhide HL]; exact hal
        generalize hA : Sp.leastTo vs i (k - 1 - i) = a at *
        clear hA
        generalize vs[k] = x at *
        generalize vs[a] = y at *
        have HBW := hide hbw
        clear hbw hrd hb
        by_cases hxy : x < y
        · have hxi : (x : Int) < (y : Int) := by omega
          rw [if_pos hxy] at hnx
          have HN := hide hnx
          clear hnx hxy
          go_wp2_with fail
          go_quiet (fail)
          go_wp2
          go_roundw
          case rel => exact ⟨k + 1, by omega, by omega, by go_num, by rw [unhide HN], b_trans (unhide HBW) (drewN_b _ _)⟩
          case measure => simp [intOf]; omega
        · have hxi : ¬ (x : Int) < (y : Int) := by omega
          rw [if_neg hxy] at hnx
          have HN := hide hnx
          clear hnx hxy
          go_wp2_with fail
          go_quiet (fail)
          go_wp2
          go_roundw
          case rel => exact ⟨k + 1, by omega, by omega, by go_num, by rw [unhide HN], b_trans (unhide HBW) (drewN_b _ _)⟩
          case measure => simp [intOf]; omega
      · have he : k = j := by omega
        subst he
        have HB := hide hb
        clear hbw hrd hb
        generalize Sp.leastTo vs i (k - 1 - i) = a at *
        go_wp2
        go_ret2
        exact ⟨a, 0, rfl, unhide HR, unhide HB⟩
  · have HP := hide (fun (o : Obj) => rbad_no p n c M vs l r (w.alloc o) hl hp)
    have HR : Hid (Sp.LeastRes vs l r 0 3) := Or.inl ⟨hp, rfl, rfl⟩
    clear hr hl hp
    go_enter Tryz.func42, Tryz.ntmps42
    go_wp2_with fail
    refine (unhide HP _).mono ?_
    rintro e w1 ⟨rfl, hb1⟩
    have HB := hide (b_trans (alloc_b _ _) hb1)
    clear hb1
    go_wp2
    go_ret2
    exact ⟨0, 3, rfl, unhide HR, unhide HB⟩

theorem nth_pair {vs : List Nat} {i j k q : Nat} (h1 : (Sp.sl vs i j).countP (fun y => decide (y < vs[k]?.getD 0)) ≤ q) (h2 : q < (Sp.sl vs i j).countP (fun y => decide (y ≤ vs[k]?.getD 0))) : Sp.IsNth (Sp.sl vs i j) q (vs[k]?.getD 0) := ⟨h1, h2⟩

set_option maxHeartbeats 2000000 in
theorem rnth_any (B : Nat) (p : Option Addr) (n c : Nat) (M : Value) (vs : List Nat) (l r k : Int) (w : World) (hr : Rd B w (.slice p n c) (U64 vs)) (hn : n ≤ 200) (hB : B ≤ w.heap.size) (hbig : ∀ x ∈ vs, x < 18446744073709551616) :
    Calls Tryz.prog 44 #[.agg #[.slice p n c, M], .int .i64 l, .int .i64 r, .int .i64 k] w fun e w' => ∃ a f : Int, e = .returned (.tuple #[.int .u64 a, .int .i64 f]) ∧ Sp.NthRes vs l r k a f ∧ Below w.heap.size w w' := by
  obtain ⟨hl, hlc⟩ := hr.len
  rw [U64_len] at hl
  by_cases hp : Sp.IsPart vs l r
  · have HP := hide (fun (o : Obj) => rbad_yes p n c M vs l r (w.alloc o) hl hp)
    have HBX : Hid (∀ (w' : World), Below (w.alloc (.cells #[.slice p n c, M] 52)).heap.size (w.alloc (.cells #[.slice p n c, M] 52)) w' → w'.cell? ⟨w.heap.size, 0, none⟩ = some (.slice p n c) ∧ w'.cell? ⟨w.heap.size, 1, none⟩ = some M ∧ Rd B w' (.slice p n c) (U64 vs) ∧ Below w.heap.size w w') :=
      fun w' hb => ⟨later_c (bx w _ _ 0 _ rfl) hb, later_c (bx w _ _ 1 _ rfl) hb, hr.below (((alloc_b w _).mono hB).trans (hb.mono (by simp; omega))), b_trans (alloc_b _ _) hb⟩
    obtain ⟨i, j, rfl, rfl, hij, hj⟩ := hp.nat
    have hjn : j ≤ n := by omega
    by_cases hk : 0 ≤ k ∧ k < (j : Int) - (i : Int)
    · obtain ⟨q, rfl⟩ := Int.eq_ofNat_of_zero_le hk.1
      have HR : Hid (∀ v : Nat, Sp.IsNth (Sp.sl vs i j) q v → Sp.NthRes vs (i : Int) (j : Int) (q : Int) (v : Int) 0) := fun v hv => Or.inr (Or.inr ⟨v, hp, hk, by rw [Int.toNat_natCast, Int.toNat_natCast, Int.toNat_natCast]; exact hv, rfl, rfl⟩)
      have hsl := Sp.sl_len vs (a := i) (b := j) hj
      have hk2 : (q : Int) < (j : Int) - (i : Int) := hk.2
      have hq0 : (0 : Int) ≤ (q : Int) := by omega
      obtain ⟨v0, hv0⟩ := Sp.isNth_exists (P := Sp.sl vs i j) (k := q) (W := 64) (fun x hx => by have := hbig x (Sp.sl_mem hx); simpa using this) (by omega)
      have hex : ∃ m, i ≤ m ∧ m < j ∧ vs[m]?.getD 0 = v0 := by
        obtain ⟨m, hm⟩ := List.mem_iff_getElem?.1 hv0.mem
        have hml := (List.getElem?_eq_some_iff.1 hm).1
        rw [hsl] at hml
        rw [Sp.sl_at vs (by omega)] at hm
        exact ⟨i + m, by omega, by omega, by rw [hm]; rfl⟩
      obtain ⟨m0, hm1, hm2, hm3⟩ := hex
      have HV0 := hide hv0
      have HM := hide (And.intro hm1 (And.intro hm2 hm3))
      have HL := hide hl
      clear hr hl hp hj hk hbig hv0 hm1 hm2 hm3 hsl
      go_enter Tryz.func44, Tryz.ntmps44
      go_wp2_with fail
      refine (unhide HP _).mono ?_
      rintro e w1 ⟨rfl, hb1⟩
      have HB1 := hide hb1
      clear hb1 HP
      go_wp2
      go_loopw [11] (fun ii wr => ∃ a : Nat, i ≤ a ∧ a ≤ m0 ∧ ii = .int .i64 (a : Nat) ∧ Below (w.alloc (.cells #[.slice p n c, M] 52)).heap.size (w.alloc (.cells #[.slice p n c, M] 52)) wr) (fun ii _ => j - (intOf ii).toNat)
      case atStart => exact ⟨i, Nat.le_refl _, (unhide HM).1, rfl, unhide HB1⟩
      case round =>
        obtain ⟨a, hia, ham, rfl, hbw⟩ := hrel
        have haj : a < j := by have := (unhide HM).2.1; omega
        have hal : a < vs.length := by rw [← unhide HL]; omega
        have HBW := hide hbw
        clear hbw
        go_wp2
        go_loopw [12, 13, 14] (fun ll mm kk wr => ∃ b : Nat, i ≤ b ∧ b ≤ j ∧ kk = .int .i64 (b : Nat) ∧ ll = .int .i64 ((Sp.sl vs i b).countP (fun y => decide (y < vs[a]?.getD 0)) : Nat) ∧ mm = .int .i64 ((Sp.sl vs i b).countP (fun y => decide (y ≤ vs[a]?.getD 0)) : Nat) ∧ Below (w.alloc (.cells #[.slice p n c, M] 52)).heap.size (w.alloc (.cells #[.slice p n c, M] 52)) wr) (fun _ _ kk _ => j - (intOf kk).toNat)
        case atStart => exact ⟨i, Nat.le_refl _, by omega, rfl, by rw [Sp.sl_nil]; rfl, by rw [Sp.sl_nil]; rfl, unhide HBW⟩
        case round =>
          obtain ⟨b, hib, hbj, rfl, rfl, rfl, hbw⟩ := hrel
          clear HBW HB1
          obtain ⟨c0, c1, hrd, hb⟩ := unhide HBX _ hbw
          have hc1 : (Sp.sl vs i b).countP (fun y => decide (y < vs[a]?.getD 0)) ≤ 200 := Nat.le_trans List.countP_le_length (by rw [Sp.sl_len vs (by rw [← unhide HL]; omega)]; omega)
          have hc2 : (Sp.sl vs i b).countP (fun y => decide (y ≤ vs[a]?.getD 0)) ≤ 200 := Nat.le_trans List.countP_le_length (by rw [Sp.sl_len vs (by rw [← unhide HL]; omega)]; omega)
          have hax : vs[a]?.getD 0 = vs[a] := by simp [hal]
          obtain ⟨bb, oo, hpe, _, hca⟩ := hrd.at a _ (U64_at vs a hal)
          subst hpe
          have han : a < n := by omega
          by_cases hlt : b < j
          · have hbl : b < vs.length := by rw [← unhide HL]; omega
            obtain ⟨b2, o2, hpe2, _, hcb⟩ := hrd.at b _ (U64_at vs b hbl)
            simp only [Option.some.injEq, Addr.mk.injEq] at hpe2
            obtain ⟨rfl, rfl, _⟩ := hpe2
            have hs1 := sl_count_snoc vs (fun y => decide (y < vs[a]?.getD 0)) i b hib hbl
            have hs2 := sl_count_snoc vs (fun y => decide (y ≤ vs[a]?.getD 0)) i b hib hbl
            have HS := hide (And.intro hs1 hs2)
            rw [← hax] at hca
            have HBW := hide hbw
            have hbn : b < n := by omega
            clear hbw hrd hb hs1 hs2
            generalize hX : vs[b] = x at *
            clear hX hax
            generalize hY : vs[a]?.getD 0 = y at *
            clear hY
            generalize (Sp.sl vs i b).countP (fun z => decide (z < y)) = q1 at *
            generalize (Sp.sl vs i b).countP (fun z => decide (z ≤ y)) = q2 at *
            by_cases hxy : x < y
            · have hxi : (x : Int) < (y : Int) := by omega
              have hxj : (x : Int) ≤ (y : Int) := by omega
              have HS2 : Hid ((Sp.sl vs i (b + 1)).countP (fun z => decide (z < y)) = q1 + 1 ∧ (Sp.sl vs i (b + 1)).countP (fun z => decide (z ≤ y)) = q2 + 1) := ⟨by rw [(unhide HS).1, if_pos (by simp [hxy])], by rw [(unhide HS).2, if_pos (by simp; omega)]⟩
              clear HS hxy
              go_wp2_with fail
              go_quiet (fail)
              go_wp2_with fail
              go_quiet (fail)
              go_wp2
              go_roundw
              case rel => exact ⟨b + 1, by omega, by omega, by go_num, by rw [(unhide HS2).1]; go_num, by rw [(unhide HS2).2]; go_num, b_trans (unhide HBW) (drewN_b _ _)⟩
              case measure => simp [intOf]; omega
            · have hxi : ¬ (x : Int) < (y : Int) := by omega
              by_cases hxe : x ≤ y
              · have hxj : (x : Int) ≤ (y : Int) := by omega
                have HS2 : Hid ((Sp.sl vs i (b + 1)).countP (fun z => decide (z < y)) = q1 ∧ (Sp.sl vs i (b + 1)).countP (fun z => decide (z ≤ y)) = q2 + 1) := ⟨by rw [(unhide HS).1, if_neg (by simp; omega), Nat.add_zero], by rw [(unhide HS).2, if_pos (by simp [hxe])]⟩
                clear HS hxy hxe
                go_wp2_with fail
                go_quiet (fail)
                go_wp2_with fail
                go_quiet (fail)
                go_wp2
                go_roundw
                case rel => exact ⟨b + 1, by omega, by omega, by go_num, by rw [(unhide HS2).1], by rw [(unhide HS2).2]; go_num, b_trans (unhide HBW) (drewN_b _ _)⟩
                case measure => simp [intOf]; omega
              · have hxj : ¬ (x : Int) ≤ (y : Int) := by omega
                have HS2 : Hid ((Sp.sl vs i (b + 1)).countP (fun z => decide (z < y)) = q1 ∧ (Sp.sl vs i (b + 1)).countP (fun z => decide (z ≤ y)) = q2) := ⟨by rw [(unhide HS).1, if_neg (by simp; omega), Nat.add_zero], by rw [(unhide HS).2, if_neg (by simp; omega), Nat.add_zero]⟩
                clear HS hxy hxe
                go_wp2_with fail
                go_quiet (fail)
                go_wp2_with fail
                go_quiet (fail)
                go_wp2
                go_roundw
                case rel => exact ⟨b + 1, by omega, by omega, by go_num, by rw [(unhide HS2).1], by rw [(unhide HS2).2], b_trans (unhide HBW) (drewN_b _ _)⟩
                case measure => simp [intOf]; omega
          · have he : b = j := by omega
            subst he
            have hne : ¬ ((Sp.sl vs i b).countP (fun y => decide (y < vs[a]?.getD 0)) ≤ q ∧ q < (Sp.sl vs i b).countP (fun y => decide (y ≤ vs[a]?.getD 0))) → a < m0 := by
              intro hno
              rcases Nat.lt_or_eq_of_le ham with h | h
              · exact h
              · subst h
                have hv := unhide HV0
                rw [← (unhide HM).2.2] at hv
                exact absurd ⟨hv.le, hv.gt⟩ hno
            have hyes : (Sp.sl vs i b).countP (fun y => decide (y < vs[a]?.getD 0)) ≤ q → q < (Sp.sl vs i b).countP (fun y => decide (y ≤ vs[a]?.getD 0)) → Sp.NthRes vs (i : Int) (b : Int) (q : Int) (vs[a] : Nat) 0 := fun h1 h2 => by
              have := unhide HR _ (nth_pair (vs := vs) (i := i) (j := b) (k := a) (q := q) h1 h2)
              rw [hax] at this
              exact this
            have HNE := hide hne
            have HYES := hide hyes
            have HBW := hide (And.intro hbw hb)
            clear hne hyes hbw hb hrd
            generalize hX : vs[a] = x at *
            clear hX hax
            generalize (Sp.sl vs i b).countP (fun z => decide (z < vs[a]?.getD 0)) = q1 at *
            generalize (Sp.sl vs i b).countP (fun z => decide (z ≤ vs[a]?.getD 0)) = q2 at *
            by_cases h1 : q1 ≤ q
            · have h1i : (q1 : Int) ≤ (q : Int) := by omega
              by_cases h2 : q < q2
              · have h2i : (q : Int) < (q2 : Int) := by omega
                have HF := hide (unhide HYES h1 h2)
                clear HYES HNE
                go_wp2
                go_ret2
                exact ⟨x, 0, rfl, unhide HF, (unhide HBW).2⟩
              · have h2i : ¬ (q : Int) < (q2 : Int) := by omega
                have hlt2 := unhide HNE (fun h => h2 h.2)
                clear HYES HNE
                go_wp2
                go_roundw
                case rel => exact ⟨a + 1, by omega, by omega, by go_num, (unhide HBW).1⟩
                case measure => simp [intOf]; omega
            · have h1i : ¬ (q1 : Int) ≤ (q : Int) := by omega
              have hlt2 := unhide HNE (fun h => h1 h.1)
              clear HYES HNE
              go_wp2
              go_roundw
              case rel => exact ⟨a + 1, by omega, by omega, by go_num, (unhide HBW).1⟩
              case measure => simp [intOf]; omega
    · have HR : Hid (Sp.NthRes vs (i : Int) (j : Int) k 0 4) := Or.inr (Or.inl ⟨hp, hk, rfl, rfl⟩)
      by_cases h0 : k < 0
      · clear hr hl hp hk hj
        go_enter Tryz.func44, Tryz.ntmps44
        go_wp2_with fail
        refine (unhide HP _).mono ?_
        rintro e w1 ⟨rfl, hb1⟩
        have HB := hide (b_trans (alloc_b _ _) hb1)
        clear hb1
        go_wp2
        go_ret2
        exact ⟨0, 4, rfl, unhide HR, unhide HB⟩
      · have h1 : (j : Int) - (i : Int) ≤ k := by omega
        clear hr hl hp hk hj
        go_enter Tryz.func44, Tryz.ntmps44
        go_wp2_with fail
        refine (unhide HP _).mono ?_
        rintro e w1 ⟨rfl, hb1⟩
        have HB := hide (b_trans (alloc_b _ _) hb1)
        clear hb1
        go_wp2
        go_ret2
        exact ⟨0, 4, rfl, unhide HR, unhide HB⟩
  · have HP := hide (fun (o : Obj) => rbad_no p n c M vs l r (w.alloc o) hl hp)
    have HR : Hid (Sp.NthRes vs l r k 0 3) := Or.inl ⟨hp, rfl, rfl⟩
    clear hr hl hp
    go_enter Tryz.func44, Tryz.ntmps44
    go_wp2_with fail
    refine (unhide HP _).mono ?_
    rintro e w1 ⟨rfl, hb1⟩
    have HB := hide (b_trans (alloc_b _ _) hb1)
    clear hb1
    go_wp2
    go_ret2
    exact ⟨0, 3, rfl, unhide HR, unhide HB⟩
end Rf
end Go.Proofs.YtolkjadklbchfaaGreatDoor
