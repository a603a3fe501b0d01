import Derived.Test.YtolkjadklbchfaaGreatDoorG4
import Derived.Test.YtolkjadklbchfaaGreatDoorM1
import Derived.Deep.QuietTactic
import Derived.BigQuiet
/- Walks: the document's Access, Rank, Select, Count, Before, After. -/
open Go Go.RowKit
namespace Go.Proofs.YtolkjadklbchfaaGreatDoor
namespace Rf
open Mem

theorem alloc_c {w : World} {b o : Nat} {u : Value} (h : w.cell? ⟨b, o, none⟩ = some u) (ob : Obj) : (w.alloc ob).cell? ⟨b, o, none⟩ = some u :=
  (((Below.refl w.heap.size w).alloc (Nat.le_refl _) ob).cell (p := ⟨b, o, none⟩) (World.block_lt_of_cell? _ _ h)).trans h
theorem alloc_b (w : World) (o : Obj) : Below w.heap.size w (w.alloc o) := (Below.refl _ _).alloc (Nat.le_refl _) _
theorem drewN_b (w : World) (q : Nat) : Below w.heap.size w (w.drewN q) := ⟨rfl, rfl, rfl, Nat.le_refl _, fun _ _ => rfl⟩
theorem b_trans {w w1 w2 : World} (h1 : Below w.heap.size w w1) (h2 : Below w1.heap.size w1 w2) : Below w.heap.size w w2 := h1.trans (h2.mono h1.size)

set_option maxHeartbeats 1000000 in
theorem racc_any (B : Nat) (p : Option Addr) (n c : Nat) (M : Value) (vs : List Nat) (i : Int) (w : World) (hr : Rd B w (.slice p n c) (U64 vs)) :
    Calls Tryz.prog 35 #[.agg #[.slice p n c, M], .int .i64 i] w fun e w' => ∃ a f : Int, e = .returned (.tuple #[.int .u64 a, .int .i64 f]) ∧ Sp.AccRes vs i a f ∧ Below w.heap.size w w' := by
  obtain ⟨hl, hlc⟩ := hr.len
  rw [U64_len] at hl
  by_cases h0 : i < 0
  · have HR : Hid (Sp.AccRes vs i 0 3) := Or.inl ⟨Or.inl h0, rfl, rfl⟩
    clear hr hl
    go_enter Tryz.func35, Tryz.ntmps35
    go_wp2
    go_ret2
    exact ⟨0, 3, rfl, unhide HR, alloc_b _ _⟩
  · by_cases h1 : (n : Int) ≤ i
    · have HR : Hid (Sp.AccRes vs i 0 3) := Or.inl ⟨Or.inr (by rw [← hl]; exact h1), rfl, rfl⟩
      clear hr hl
      go_enter Tryz.func35, Tryz.ntmps35
      go_wp2
      go_ret2
      exact ⟨0, 3, rfl, unhide HR, alloc_b _ _⟩
    · obtain ⟨j, rfl⟩ := Int.eq_ofNat_of_zero_le (show 0 ≤ i by omega)
      have hj : j < vs.length := by omega
      obtain ⟨b, o, rfl, hb, hc⟩ := hr.at j _ (U64_at vs j hj)
      have ha := alloc_c hc
      have HR : Hid (Sp.AccRes vs (j : Int) (vs[j] : Nat) 0) := Or.inr ⟨vs[j], by omega, by rw [Int.toNat_natCast]; exact List.getElem?_eq_getElem hj, rfl, rfl⟩
      generalize vs[j] = x at *
      clear hr hl
      go_enter Tryz.func35, Tryz.ntmps35
      go_wp2
      go_ret2
      exact ⟨x, 0, rfl, unhide HR, alloc_b _ _⟩

theorem count_snoc (vs : List Nat) (v k : Nat) (hk : k < vs.length) : (vs.take (k + 1)).count v = (vs.take k).count v + (if vs[k] = v then 1 else 0) := by
  rw [List.take_succ_eq_append_getElem hk, List.count_append]
  by_cases h : vs[k] = v <;> simp [h]

set_option maxHeartbeats 1000000 in
theorem rrank_any (B : Nat) (p : Option Addr) (n c : Nat) (M : Value) (vs : List Nat) (v : Nat) (i : Int) (w : World) (hr : Rd B w (.slice p n c) (U64 vs)) (hn : n ≤ 200) :
    Calls Tryz.prog 37 #[.agg #[.slice p n c, M], .int .u64 (v : Nat), .int .i64 i] w fun e w' => ∃ a f : Int, e = .returned (.tuple #[.int .i64 a, .int .i64 f]) ∧ Sp.RankRes vs v i a f ∧ Below w.heap.size w w' := by
  obtain ⟨hl, hlc⟩ := hr.len
  rw [U64_len] at hl
  by_cases h0 : i < 0
  · have HR : Hid (Sp.RankRes vs v i 0 3) := Or.inl ⟨Or.inl h0, rfl, rfl⟩
    clear hr hl
    go_enter Tryz.func37, Tryz.ntmps37
    go_wp2
    go_ret2
    exact ⟨0, 3, rfl, unhide HR, alloc_b _ _⟩
  · by_cases h1 : (n : Int) < i
    · have HR : Hid (Sp.RankRes vs v i 0 3) := Or.inl ⟨Or.inr (by rw [← hl]; exact h1), rfl, rfl⟩
      clear hr hl
      go_enter Tryz.func37, Tryz.ntmps37
      go_wp2
      go_ret2
      exact ⟨0, 3, rfl, unhide HR, alloc_b _ _⟩
    · obtain ⟨j, rfl⟩ := Int.eq_ofNat_of_zero_le (show 0 ≤ i by omega)
      have hj : j ≤ vs.length := by omega
      have HR : Hid (Sp.RankRes vs v (j : Int) ((vs.take j).count v : Nat) 0) := Or.inr ⟨by omega, by omega, by rw [Int.toNat_natCast], rfl⟩
      have HL := hide hl
      have HRD := hide hr
      have hjn : j ≤ n := by omega
      clear hr hl hj
      go_enter Tryz.func37, Tryz.ntmps37
      go_wp2
      go_loop [8, 9] (fun aa kk => ∃ k : Nat, k ≤ j ∧ kk = .int .i64 (k : Nat) ∧ aa = .int .i64 ((vs.take k).count v : Nat)) (fun _ kk => j - (intOf kk).toNat)
      case atStart => exact ⟨0, Nat.zero_le _, rfl, by simp⟩
      case round =>
        obtain ⟨k, hk, rfl, rfl⟩ := hrel
        have hcl : (vs.take k).count v ≤ k := Nat.le_trans List.count_le_length (List.length_take_le _ _)
        by_cases hlt : k < j
        · have hkl : k < vs.length := by rw [← unhide HL]; omega
          obtain ⟨b, o, rfl, hb, hc⟩ := (unhide HRD).at k _ (U64_at vs k hkl)
          have ha := alloc_c hc
          have hs := count_snoc vs v k hkl
          clear hc
          by_cases hx : vs[k] = v
          · rw [if_pos hx] at hs
            have HS := hide hs
            rw [hx] at ha
            generalize (vs.take k).count v = q at *
            clear hs hx
            go_wp2
            go_round
            case rel => exact ⟨k + 1, by omega, by go_num, by rw [unhide HS]; go_num⟩
            case measure => simp [intOf]; omega
          · rw [if_neg hx, Nat.add_zero] at hs
            have HS := hide hs
            have hxi : ((vs[k] : Int) == (v : Int)) = false := by rw [beq_eq_false_iff_ne]; omega
            generalize vs[k] = x at *
            generalize (vs.take k).count v = q at *
            clear hs hx
            go_wp2
            go_round
            case rel => exact ⟨k + 1, by omega, by go_num, by rw [unhide HS]; rfl⟩
            case measure => simp [intOf]; omega
        · have he : k = j := by omega
          subst he
          generalize (vs.take k).count v = q at *
          go_wp2
          go_ret2
          exact ⟨q, 0, rfl, unhide HR, alloc_b _ _⟩

set_option maxHeartbeats 1000000 in
theorem rsel_any (B : Nat) (p : Option Addr) (n c : Nat) (M : Value) (vs : List Nat) (v : Nat) (k : Int) (w : World) (hr : Rd B w (.slice p n c) (U64 vs)) (hn : n ≤ 200) (hk : k ≤ 9223372036854775807) :
    Calls Tryz.prog 40 #[.agg #[.slice p n c, M], .int .u64 (v : Nat), .int .i64 k] w fun e w' => ∃ a f : Int, e = .returned (.tuple #[.int .i64 a, .int .i64 f]) ∧ Sp.SelRes vs v k a f ∧ Below w.heap.size w w' := by
  obtain ⟨hl, hlc⟩ := hr.len
  rw [U64_len] at hl
  by_cases h0 : k < 0
  · have HR : Hid (Sp.SelRes vs v k 0 4) := Or.inl ⟨h0, rfl, rfl⟩
    clear hr hl
    go_enter Tryz.func40, Tryz.ntmps40
    go_wp2
    go_ret2
    exact ⟨0, 4, rfl, unhide HR, alloc_b _ _⟩
  · obtain ⟨q, rfl⟩ := Int.eq_ofNat_of_zero_le (show 0 ≤ k by omega)
    have HL := hide hl
    have HRD := hide hr
    clear hr hl
    go_enter Tryz.func40, Tryz.ntmps40
    go_wp2
    go_loop [2, 8] (fun kk ii => ∃ i r : Nat, i ≤ n ∧ ii = .int .i64 (i : Nat) ∧ kk = .int .i64 (r : Nat) ∧ r + (vs.take i).count v = q) (fun _ ii => n - (intOf ii).toNat)
    case atStart => exact ⟨0, q, Nat.zero_le _, rfl, rfl, by simp⟩
    case round =>
      obtain ⟨i, r, hi, rfl, rfl, hsum⟩ := hrel
      have hrq : (r : Int) ≤ 9223372036854775807 := by omega
      by_cases hlt : i < n
      · have hkl : i < vs.length := by rw [← unhide HL]; omega
        obtain ⟨b, o, rfl, hb, hc⟩ := (unhide HRD).at i _ (U64_at vs i hkl)
        have ha := alloc_c hc
        have hs := count_snoc vs v i hkl
        clear hc
        by_cases hx : vs[i] = v
        · rw [if_pos hx] at hs
          by_cases hr0 : r = 0
          · subst hr0
            have HR : Hid (Sp.SelRes vs v (q : Int) (i : Int) 0) := Or.inr (Or.inr ⟨i, by omega, ⟨by rw [List.getElem?_eq_getElem hkl, hx], by rw [Int.toNat_natCast]; omega⟩, rfl, rfl⟩)
            rw [hx] at ha
            clear hs hx hsum
            go_wp2
            go_ret2
            exact ⟨i, 0, rfl, unhide HR, alloc_b _ _⟩
          · have HS : Hid ((r - 1) + (vs.take (i + 1)).count v = q) := by unfold Hid; omega
            rw [hx] at ha
            have hr1 : ((r : Int) == 0) = false := by rw [beq_eq_false_iff_ne]; omega
            have hre : (r : Int) - 1 = ((r - 1 : Nat) : Int) := by omega
            have HRE := hide hre
            clear hs hx hsum hre
            go_wp2
            go_round
            case rel => exact ⟨i + 1, r - 1, by omega, by go_num, by rw [unhide HRE], unhide HS⟩
            case measure => simp [intOf]; omega
        · rw [if_neg hx] at hs
          have HS : Hid (r + (vs.take (i + 1)).count v = q) := by unfold Hid; omega
          have hxi : ((vs[i] : Int) == (v : Int)) = false := by rw [beq_eq_false_iff_ne]; omega
          generalize vs[i] = x at *
          clear hs hx hsum
          go_wp2
          go_round
          case rel => exact ⟨i + 1, r, by omega, by go_num, rfl, unhide HS⟩
          case measure => simp [intOf]; omega
      · have he : i = n := by omega
        subst he
        have HR : Hid (Sp.SelRes vs v (q : Int) 0 5) := by
          refine Or.inr (Or.inl ⟨by omega, ?_, rfl, rfl⟩)
          rw [Int.toNat_natCast]
          rw [unhide HL, List.take_length] at hsum
          omega
        clear hsum
        go_wp2
        go_ret2
        exact ⟨0, 5, rfl, unhide HR, alloc_b _ _⟩

theorem sl_count_snoc (vs : List Nat) (f : Nat → Bool) (l k : Nat) (hl : l ≤ k) (hk : k < vs.length) : (Sp.sl vs l (k + 1)).countP f = (Sp.sl vs l k).countP f + (if f vs[k] = true then 1 else 0) := by
  rw [Sp.sl_snoc vs hl hk, List.countP_append]
  simp [List.countP_cons]

set_option maxHeartbeats 1000000 in
theorem rbad_yes (p : Option Addr) (n c : Nat) (M : Value) (vs : List Nat) (l r : Int) (w : World) (hl : n = vs.length) (hp : Sp.IsPart vs l r) :
    Calls Tryz.prog 87 #[.agg #[.slice p n c, M], .int .i64 l, .int .i64 r] w fun e w' => e = .returned (.bool false) ∧ Below w.heap.size w w' := by
  obtain ⟨h1, h2, h3⟩ := hp
  rw [← hl] at h2
  clear hl
  go_enter Tryz.func87, Tryz.ntmps87
  go_wp2
  go_ret
  exact ⟨ret_bool (by simp; omega), alloc_b _ _⟩
set_option maxHeartbeats 1000000 in
theorem rbad_no (p : Option Addr) (n c : Nat) (M : Value) (vs : List Nat) (l r : Int) (w : World) (hl : n = vs.length) (hp : ¬ Sp.IsPart vs l r) :
    Calls Tryz.prog 87 #[.agg #[.slice p n c, M], .int .i64 l, .int .i64 r] w fun e w' => e = .returned (.bool true) ∧ Below w.heap.size w w' := by
  unfold Sp.IsPart at hp
  rw [← hl] at hp
  clear hl
  by_cases h1 : l < 0
  · clear hp
    go_enter Tryz.func87, Tryz.ntmps87
    go_wp2
    go_ret
    exact ⟨ret_bool (by simp), alloc_b _ _⟩
  · by_cases h2 : (n : Int) < r
    · clear hp
      go_enter Tryz.func87, Tryz.ntmps87
      go_wp2
      go_ret
      exact ⟨ret_bool (by simp), alloc_b _ _⟩
    · have h3 : r ≤ l := by omega
      clear hp
      go_enter Tryz.func87, Tryz.ntmps87
      go_wp2
      go_ret
      exact ⟨ret_bool (by simp), alloc_b _ _⟩
end Rf
end Go.Proofs.YtolkjadklbchfaaGreatDoor
/- Walks: the document's Before, After. -/
open Go Go.RowKit
namespace Go.Proofs.YtolkjadklbchfaaGreatDoor
namespace Rf
open Mem

theorem rises_at {ms : List Nat} (h : Sp.Rises ms) {i j : Nat} (hi : i < ms.length) (hj : j < ms.length) (hij : i < j) : ms[i] < ms[j] := by
  have := h i j hij hj
  simpa [hi, hj] using this

set_option maxHeartbeats 1000000 in
theorem rbefore_any (B : Nat) (V : Value) (p : Option Addr) (m c : Nat) (ms : List Nat) (q : Int) (w : World) (hr : Rd B w (.slice p m c) (I64 (NI ms))) (hm : m ≤ 200) (hri : Sp.Rises ms) :
    Calls Tryz.prog 48 #[.agg #[V, .slice p m c], .int .i64 q] w fun e w' => ∃ a f : Int, e = .returned (.tuple #[.int .i64 a, .int .i64 f]) ∧ Sp.BeforeRes ms q a f ∧ Below w.heap.size w w' := by
  obtain ⟨hl, hlc⟩ := hr.len
  rw [NI_len] at hl
  have HL := hide hl
  have HRD := hide hr
  have HRI := hide hri
  clear hr hl hri
  go_enter Tryz.func48, Tryz.ntmps48
  go_wp2
  go_loop [6] (fun ii => ∃ k : Nat, k ≤ m ∧ ii = .int .i64 ((k : Int) - 1) ∧ ∀ j (hj : j < ms.length), k ≤ j → q < (ms[j] : Int)) (fun ii => (intOf ii + 1).toNat)
  case atStart => exact ⟨m, Nat.le_refl _, rfl, fun j hj h => by rw [unhide HL] at h; omega⟩
  case round =>
    obtain ⟨k, hk, rfl, hall⟩ := hrel
    cases k with
    | zero =>
      have HR : Hid (Sp.BeforeRes ms q 0 5) := by
        refine Or.inl ⟨fun x hx => ?_, rfl, rfl⟩
        obtain ⟨j, hj, rfl⟩ := List.mem_iff_getElem.1 hx
        exact hall j hj (Nat.zero_le _)
      clear hall
      go_wp2
      go_ret2
      exact ⟨0, 5, rfl, unhide HR, alloc_b _ _⟩
    | succ k =>
      rw [show (((k + 1 : Nat) : Int) - 1) = (k : Int) from by omega]
      have hkl : k < ms.length := by rw [← unhide HL]; omega
      obtain ⟨b, o, rfl, hb, hc⟩ := (unhide HRD).at k _ (NI_at ms k hkl)
      have ha := alloc_c hc
      have HA := hide hall
      clear hc hall
      by_cases hx : (ms[k] : Int) ≤ q
      · have HR : Hid (Sp.BeforeRes ms q (ms[k] : Nat) 0) := by
          refine Or.inr ⟨ms[k], List.getElem_mem hkl, hx, fun y hy hyq => ?_, rfl, rfl⟩
          obtain ⟨j, hj, rfl⟩ := List.mem_iff_getElem.1 hy
          rcases Nat.lt_trichotomy j k with h | h | h
          · exact Nat.le_of_lt (rises_at (unhide HRI) hj hkl h)
          · subst h
            exact Nat.le_refl _
          · have := unhide HA j hj (by omega)
            omega
        generalize ms[k] = x at *
        go_wp2
        go_ret2
        exact ⟨x, 0, rfl, unhide HR, alloc_b _ _⟩
      · have HN : Hid (∀ j (hj : j < ms.length), k ≤ j → q < (ms[j] : Int)) := by
          intro j hj h
          rcases Nat.lt_or_eq_of_le h with h | h
          · exact unhide HA j hj h
          · subst h
            omega
        generalize ms[k] = x at *
        go_wp2
        go_round
        case rel => exact ⟨k, by omega, rfl, unhide HN⟩
        case measure => simp [intOf]

set_option maxHeartbeats 1000000 in
theorem rafter_any (B : Nat) (V : Value) (p : Option Addr) (m c : Nat) (ms : List Nat) (q : Int) (w : World) (hr : Rd B w (.slice p m c) (I64 (NI ms))) (hm : m ≤ 200) (hri : Sp.Rises ms) :
    Calls Tryz.prog 50 #[.agg #[V, .slice p m c], .int .i64 q] w fun e w' => ∃ a f : Int, e = .returned (.tuple #[.int .i64 a, .int .i64 f]) ∧ Sp.AfterRes ms q a f ∧ Below w.heap.size w w' := by
  obtain ⟨hl, hlc⟩ := hr.len
  rw [NI_len] at hl
  have HL := hide hl
  have HRD := hide hr
  have HRI := hide hri
  clear hr hl hri
  go_enter Tryz.func50, Tryz.ntmps50
  go_wp2
  go_loop [6] (fun ii => ∃ k : Nat, k ≤ m ∧ ii = .int .i64 (k : Nat) ∧ ∀ j (hj : j < ms.length), j < k → (ms[j] : Int) < q) (fun ii => m - (intOf ii).toNat)
  case atStart => exact ⟨0, Nat.zero_le _, rfl, fun j hj h => by omega⟩
  case round =>
    obtain ⟨k, hk, rfl, hall⟩ := hrel
    have HA := hide hall
    clear hall
    by_cases hlt : k < m
    · have hkl : k < ms.length := by rw [← unhide HL]; omega
      obtain ⟨b, o, rfl, hb, hc⟩ := (unhide HRD).at k _ (NI_at ms k hkl)
      have ha := alloc_c hc
      clear hc
      by_cases hx : q ≤ (ms[k] : Int)
      · have HR : Hid (Sp.AfterRes ms q (ms[k] : Nat) 0) := by
          refine Or.inr ⟨ms[k], List.getElem_mem hkl, hx, fun y hy hyq => ?_, rfl, rfl⟩
          obtain ⟨j, hj, rfl⟩ := List.mem_iff_getElem.1 hy
          rcases Nat.lt_trichotomy j k with h | h | h
          · have := unhide HA j hj h
            omega
          · subst h
            exact Nat.le_refl _
          · exact Nat.le_of_lt (rises_at (unhide HRI) hkl hj h)
        generalize ms[k] = x at *
        go_wp2
        go_ret2
        exact ⟨x, 0, rfl, unhide HR, alloc_b _ _⟩
      · have HN : Hid (∀ j (hj : j < ms.length), j < k + 1 → (ms[j] : Int) < q) := by
          intro j hj h
          rcases Nat.lt_or_eq_of_le (Nat.le_of_lt_succ h) with h | h
          · exact unhide HA j hj h
          · subst h
            omega
        generalize ms[k] = x at *
        go_wp2
        go_round
        case rel => exact ⟨k + 1, by omega, by go_num, unhide HN⟩
        case measure => simp [intOf]; omega
    · have HR : Hid (Sp.AfterRes ms q 0 5) := by
        refine Or.inl ⟨fun x hx => ?_, rfl, rfl⟩
        obtain ⟨j, hj, rfl⟩ := List.mem_iff_getElem.1 hx
        exact unhide HA j hj (by rw [← unhide HL] at hj; omega)
      have he : k = m := by omega
      subst he
      go_wp2
      go_ret2
      exact ⟨0, 5, rfl, unhide HR, alloc_b _ _⟩
end Rf
end Go.Proofs.YtolkjadklbchfaaGreatDoor
