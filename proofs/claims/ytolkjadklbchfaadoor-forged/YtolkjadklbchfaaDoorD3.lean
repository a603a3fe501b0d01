import Derived.Test.YtolkjadklbchfaaDoorD2
/- Walks of the program: the head that is read. -/
open Go Go.RowKit
namespace Go.Proofs.YtolkjadklbchfaaDoor
namespace Sp
/-- What a head says. -/
def hW (d : List Nat) : Nat := d[5]?.getD 0
def hN (d : List Nat) : Nat := d[6]?.getD 0 + 256 * d[7]?.getD 0
def hM (d : List Nat) : Nat := d[8]?.getD 0 + 256 * d[9]?.getD 0
/-- The first reason for which the head is refused; 0: none. -/
def headErr (d : List Nat) : Nat :=
  if d.length < 14 then 6 else if d.take 4 ≠ [83, 84, 82, 65] then 7 else if d[4]?.getD 0 ≠ 1 then 8
  else if sealed (d.take 10) ≠ d.take 14 then 9 else if 64 < hW d ∨ 200 < hN d ∨ hN d < hM d then 10 else 0
end Sp
namespace Ld
open Mem Rf Pr

/-- A slice's end from a place on. -/
theorem rd_back {B : Nat} {w : World} {b o n c k : Nat} {xs : List Nat} (h : Rd B w (.slice (some ⟨b, o, none⟩) n c) (By xs)) (hk : k ≤ n) : Rd B w (.slice (some ⟨b, o + k, none⟩) (n - k) (c - k)) (By (xs.drop k)) := by
  obtain ⟨p', c', hv, hlc, h⟩ := h
  simp only [Value.slice.injEq] at hv
  obtain ⟨rfl, rfl, rfl⟩ := hv
  rw [By_len] at hlc hk
  refine ⟨some ⟨b, o + k, none⟩, c - k, by rw [By_len, By_len]; simp, by rw [By_len]; simp; omega, ?_⟩
  rcases h with h | ⟨b', o', hp, hb, h⟩
  · exact .inl (by omega)
  · simp only [Option.some.injEq, Addr.mk.injEq] at hp
    obtain ⟨rfl, rfl, _⟩ := hp
    refine .inr ⟨b, o + k, rfl, hb, fun j u hu => ?_⟩
    rw [Nat.add_assoc]
    refine h (k + j) u ?_
    have hl := (List.getElem?_eq_some_iff.1 hu).1
    rw [By_len] at hl
    simp at hl
    rw [By_at _ _ (by simp; omega)] at hu
    rw [By_at _ _ (by omega)]
    simpa using hu

/-- A result of three numbers in its block. -/
theorem box3 {w w4 : World} {t : TypeId} (hb : Below (w.alloc (.cells #[.int .i64 0, .int .i64 0, .int .i64 0] t)).heap.size (w.alloc (.cells #[.int .i64 0, .int .i64 0, .int .i64 0] t)) w4) :
    (w4.cell? ⟨w.heap.size, 0, none⟩ = some (.int .i64 0) ∧ w4.cell? ⟨w.heap.size, 1, none⟩ = some (.int .i64 0) ∧ w4.cell? ⟨w.heap.size, 2, none⟩ = some (.int .i64 0)) ∧ (∀ j, w4.frozen? ⟨w.heap.size, j, none⟩ = false) ∧ Below w.heap.size w w4 := by
  have hblk : w4.heap[w.heap.size]? = some (.cells #[.int .i64 0, .int .i64 0, .int .i64 0] t (0, 0)) := (hb.block w.heap.size (by simp)).trans (heap_alloc_new _ _)
  exact ⟨⟨by rw [cell_of_row _ _ _ _ _ (0, 0) hblk]; rfl, by rw [cell_of_row _ _ _ _ _ (0, 0) hblk]; rfl, by rw [cell_of_row _ _ _ _ _ (0, 0) hblk]; rfl⟩, fun j => frozen_of_row w4 _ j _ _ hblk, bel_trans (alloc_bel _ _) hb⟩
theorem set3 {w w4 : World} {H : Nat} {z0 z1 z2 : Value} (h0 : w4.cell? ⟨H, 0, none⟩ = some z0) (h1 : w4.cell? ⟨H, 1, none⟩ = some z1) (h2 : w4.cell? ⟨H, 2, none⟩ = some z2) (hb : Below w.heap.size w w4) (hB : w.heap.size ≤ H) (v0 v1 v2 : Value) :
    (((w4.setCell ⟨H, 0, none⟩ v0).setCell ⟨H, 1, none⟩ v1).setCell ⟨H, 2, none⟩ v2).cell? ⟨H, 0, none⟩ = some v0 ∧ (((w4.setCell ⟨H, 0, none⟩ v0).setCell ⟨H, 1, none⟩ v1).setCell ⟨H, 2, none⟩ v2).cell? ⟨H, 1, none⟩ = some v1 ∧ (((w4.setCell ⟨H, 0, none⟩ v0).setCell ⟨H, 1, none⟩ v1).setCell ⟨H, 2, none⟩ v2).cell? ⟨H, 2, none⟩ = some v2 ∧ Below w.heap.size w (((w4.setCell ⟨H, 0, none⟩ v0).setCell ⟨H, 1, none⟩ v1).setCell ⟨H, 2, none⟩ v2) := by
  have hex : ∀ i, i < ([v0, v1, v2] : List Value).length → ∃ u, w4.cell? ⟨H, 0 + i, none⟩ = some u := by
    intro i hi
    match i, hi with
    | 0, _ => exact ⟨_, h0⟩
    | 1, _ => exact ⟨_, h1⟩
    | 2, _ => exact ⟨_, h2⟩
  exact ⟨setAll_cell 0 _ hex 0 _ rfl, setAll_cell 0 _ hex 1 _ rfl, setAll_cell 0 _ hex 2 _ rfl, setAll_below hB 0 [v0, v1, v2] hb⟩

set_option maxHeartbeats 4000000 in
theorem head_any (B : Nat) (p : Option Addr) (n c : Nat) (d : List Nat) (w : World) (h : Rd B w (.slice p n c) (By d)) (hB : B ≤ w.heap.size) (hx : ∀ x ∈ d, x < 256) (hn : n ≤ 1000000000000000) (hT : Tab w) :
    Calls Tryd.prog 48 #[.slice p n c] w fun e w' => ∃ W N M : Nat, e = .returned (.tuple #[.agg #[.int .i64 (W : Nat), .int .i64 (N : Nat), .int .i64 (M : Nat)], .int .i64 (Sp.headErr d : Nat)]) ∧ (Sp.headErr d = 0 → W = Sp.hW d ∧ N = Sp.hN d ∧ M = Sp.hM d) ∧ Below w.heap.size w w' := by
  obtain ⟨hl, hlc⟩ := h.len
  rw [By_len] at hl
  have HS3 := hide (fun (w4 : World) (hb : Below (w.alloc (.cells #[.int .i64 0, .int .i64 0, .int .i64 0] 86)).heap.size (w.alloc (.cells #[.int .i64 0, .int .i64 0, .int .i64 0] 86)) w4) (v0 v1 v2 : Value) => set3 (box3 hb).1.1 (box3 hb).1.2.1 (box3 hb).1.2.2 (box3 hb).2.2 (Nat.le_refl _) v0 v1 v2)
  by_cases h14 : n < 14
  · have HE : Hid (Sp.headErr d = 6) := by rw [Hid, Sp.headErr, if_pos (by omega)]
    obtain ⟨⟨a0, a1, a2⟩, af, ab⟩ := box3 (w := w) (t := 86) (Below.refl _ _)
    have g := unhide HS3 _ (Below.refl _ _) (.int .i64 0) (.int .i64 0) (.int .i64 0)
    rw [unhide HE]
    have HG := hide g
    clear h hx hT g hl HS3
    go_enter Tryd.func48, Tryd.ntmps48
    go_wp2
    refine bodyPost_ret (v := .tuple #[.agg #[.int .i64 0, .int .i64 0, .int .i64 0], .int .i64 6]) (by simp [results, Tryd.results48, go_sem, a0, a1, a2]) rfl ?_
    exact ⟨0, 0, 0, rfl, fun h => by omega, ab⟩
  · obtain ⟨b, o, rfl, hq1, hq2⟩ := h.at 0 _ (By_at d 0 (by omega))
    clear hq1 hq2
    have hxt : ∀ k, ∀ x ∈ d.take k, x < 256 := fun k x hm => hx x (List.mem_of_mem_take hm)
    have HAP : Hid (∀ w' : World, Below w.heap.size w w' → Calls Tryd.prog 78 #[.slice (some ⟨b, o, none⟩) 14 c] w' fun e w2 => e = .returned (.tuple #[.slice (some ⟨b, o, none⟩) 10 c, .bool (decide (Sp.sealed (d.take 10) = d.take 14))]) ∧ Below w'.heap.size w' w2) := by
      intro w' hb
      have := apart_any B 14 c (some ⟨b, o, none⟩) (d.take 14) w' (rd_front (h.below (hb.mono hB)) (by omega)) (Nat.le_trans hB hb.size) (hxt 14) (by omega) (by omega) (hT.below hb hT.1)
      rwa [show (14 : Nat) - 4 = 10 from rfl, List.take_take, show min 10 14 = 10 from rfl] at this
    have HPF : Hid (∀ (w' : World) (q : Option Addr) (m cc : Nat), Below w.heap.size w w' → Rd w'.heap.size w' (.slice q 4 cc) (By [83, 84, 82, 65]) → Calls Tryd.prog 79 #[.slice (some ⟨b, o, none⟩) 10 c, .slice q 4 cc] w' fun e w2 => e = .returned (.bool (decide (d.take 4 = [83, 84, 82, 65]))) ∧ w2 = w') := by
      intro w' q m cc hb hr
      have := prefix_any B w'.heap.size (some ⟨b, o, none⟩) q 10 c 4 cc (d.take 10) [83, 84, 82, 65] w' (rd_front (h.below (hb.mono hB)) (by omega)) hr (hxt 10) (by simp) (by omega) (by omega) (by omega)
      rwa [List.take_take, show min 4 10 = 4 from rfl] at this
    have HC : Hid (∀ (w' : World), Below w.heap.size w w' → w'.cell? ⟨b, o + 4 + 0, none⟩ = some (.int .u8 (d[4]?.getD 0 : Nat)) ∧ w'.cell? ⟨b, o + 4 + 1, none⟩ = some (.int .u8 (d[5]?.getD 0 : Nat)) ∧ w'.cell? ⟨b, o + 4 + 2, none⟩ = some (.int .u8 (d[6]?.getD 0 : Nat)) ∧ w'.cell? ⟨b, o + 4 + 3, none⟩ = some (.int .u8 (d[7]?.getD 0 : Nat)) ∧ w'.cell? ⟨b, o + 4 + 4, none⟩ = some (.int .u8 (d[8]?.getD 0 : Nat)) ∧ w'.cell? ⟨b, o + 4 + 5, none⟩ = some (.int .u8 (d[9]?.getD 0 : Nat))) := by
      intro w' hb
      have hr := h.below (hb.mono hB)
      have key : ∀ j, j < 14 → w'.cell? ⟨b, o + j, none⟩ = some (.int .u8 (d[j]?.getD 0 : Nat)) := by
        intro j hj
        obtain ⟨b', o', hp, _, hc⟩ := hr.at j _ (By_at d j (by omega))
        simp only [Option.some.injEq, Addr.mk.injEq] at hp
        obtain ⟨rfl, rfl, _⟩ := hp
        rw [hc, List.getElem?_eq_getElem (by omega)]
        rfl
      exact ⟨key 4 (by omega), key 5 (by omega), key 6 (by omega), key 7 (by omega), key 8 (by omega), key 9 (by omega)⟩
    have hd5 := Sp.getD_lt hx (by omega) 5
    have hd6 := Sp.getD_lt hx (by omega) 6
    have hd7 := Sp.getD_lt hx (by omega) 7
    have hd8 := Sp.getD_lt hx (by omega) 8
    have hd9 := Sp.getD_lt hx (by omega) 9
    have hd4 := Sp.getD_lt hx (by omega) 4
    have HER : Hid (Sp.headErr d = if d.take 4 ≠ [83, 84, 82, 65] then 7 else if d[4]?.getD 0 ≠ 1 then 8 else if Sp.sealed (d.take 10) ≠ d.take 14 then 9 else if 64 < Sp.hW d ∨ 200 < Sp.hN d ∨ Sp.hN d < Sp.hM d then 10 else 0) := by rw [Hid, Sp.headErr, if_neg (by omega)]
    have HWN : Hid (Sp.hW d = d[5]?.getD 0 ∧ Sp.hN d = d[6]?.getD 0 + 256 * d[7]?.getD 0 ∧ Sp.hM d = d[8]?.getD 0 + 256 * d[9]?.getD 0) := ⟨rfl, rfl, rfl⟩
    have hc14 : 14 ≤ c := by omega
    have h14i : ¬ (n : Int) < 14 := by omega
    clear h hx hT hl hxt
    generalize d[4]?.getD 0 = d4 at *
    generalize d[5]?.getD 0 = d5 at *
    generalize d[6]?.getD 0 = d6 at *
    generalize d[7]?.getD 0 = d7 at *
    generalize d[8]?.getD 0 = d8 at *
    generalize d[9]?.getD 0 = d9 at *
    go_enter Tryd.func48, Tryd.ntmps48
    go_wp2_with fail
    refine (unhide HAP _ (alloc_bel _ _)).mono ?_
    rintro e w1 ⟨rfl, hb1⟩
    have hcv := run_conv_lit (P := Tryd.prog) w1 #[.int .u8 83, .int .u8 84, .int .u8 82, .int .u8 65] 45 5 4 4 Tryd.underlying45 Tryd.underlying5
    simp only [List.size_toArray, List.length_cons, List.length_nil, Nat.zero_add] at hcv
    have hb2 := bel_trans hb1 (alloc_bel w1 (.cells #[.int .u8 83, .int .u8 84, .int .u8 82, .int .u8 65] 5 (4, 5)))
    have HP2 := hide (unhide HPF _ (some ⟨w1.heap.size, 0, none⟩) 4 4 (box3 hb2).2.2 ⟨_, 4, rfl, by simp [By], .inr ⟨w1.heap.size, 0, rfl, by simp, cells_at (C := [.int .u8 83, .int .u8 84, .int .u8 82, .int .u8 65]) (heap_alloc_new _ _)⟩⟩)
    obtain ⟨⟨a0, a1, a2⟩, af, ab⟩ := box3 hb2
    obtain ⟨k4, k5, k6, k7, k8, k9⟩ := unhide HC _ ab
    have HB2 := hide hb2
    have HAB := hide ab
    clear hb1 hb2 ab HAP HPF HC
    go_wp2_with fail
    refine at_same (unhide HP2) ?_
    generalize w1.alloc (.cells #[.int .u8 83, .int .u8 84, .int .u8 82, .int .u8 65] 5 (4, 5)) = w2 at *
    clear hcv HP2
    by_cases hmag : d.take 4 = [83, 84, 82, 65]
    · rw [decide_eq_true hmag]
      rw [if_neg (by simpa using hmag)] at HER
      by_cases hver : d4 = 1
      · subst hver
        rw [if_neg (by simp)] at HER
        by_cases hsum : Sp.sealed (d.take 10) = d.take 14
        · rw [decide_eq_true hsum]
          rw [if_neg (by simpa using hsum)] at HER
          go_wp2_with fail
          go_region_held3 (fun w' => w'.cell? ⟨b, o + 4 + 1, none⟩ = some (.int .u8 (d5 : Nat)) ∧ w'.cell? ⟨b, o + 4 + 2, none⟩ = some (.int .u8 (d6 : Nat)) ∧ w'.cell? ⟨b, o + 4 + 3, none⟩ = some (.int .u8 (d7 : Nat)) ∧ w'.cell? ⟨b, o + 4 + 4, none⟩ = some (.int .u8 (d8 : Nat)) ∧ w'.cell? ⟨b, o + 4 + 5, none⟩ = some (.int .u8 (d9 : Nat))) (go_keep)
            (first | (go_at_call 80; refine at_same (number_any _ _ (by omega) (by omega) _) ?_))
          all_goals
            rw [show IntKind.i64.wrap (d5 : Int) = (d5 : Int) from wrap_i64_of (by omega) (by omega)]
            have hb9 := bel_trans (unhide HB2) ((alloc_bel w2 (.cells #[.int .i64 (d5 : Nat), .int .i64 ((d6 : Int) + 256 * (d7 : Int)), .int .i64 ((d8 : Int) + 256 * (d9 : Int))] 86)).drew)
            clear a0 a1 a2 af k4 k5 k6 k7 k8 k9
            have l0 := box5 w2 #[.int .i64 (d5 : Nat), .int .i64 ((d6 : Int) + 256 * (d7 : Int)), .int .i64 ((d8 : Int) + 256 * (d9 : Int))] 86 0 _ rfl
            have l1 := box5 w2 #[.int .i64 (d5 : Nat), .int .i64 ((d6 : Int) + 256 * (d7 : Int)), .int .i64 ((d8 : Int) + 256 * (d9 : Int))] 86 1 _ rfl
            have l2 := box5 w2 #[.int .i64 (d5 : Nat), .int .i64 ((d6 : Int) + 256 * (d7 : Int)), .int .i64 ((d8 : Int) + 256 * (d9 : Int))] 86 2 _ rfl
            replace l0 : (w2.alloc (.cells #[.int .i64 (d5 : Nat), .int .i64 ((d6 : Int) + 256 * (d7 : Int)), .int .i64 ((d8 : Int) + 256 * (d9 : Int))] 86)).drew.cell? ⟨w2.heap.size, 0, none⟩ = _ := l0
            replace l1 : (w2.alloc (.cells #[.int .i64 (d5 : Nat), .int .i64 ((d6 : Int) + 256 * (d7 : Int)), .int .i64 ((d8 : Int) + 256 * (d9 : Int))] 86)).drew.cell? ⟨w2.heap.size, 1, none⟩ = _ := l1
            replace l2 : (w2.alloc (.cells #[.int .i64 (d5 : Nat), .int .i64 ((d6 : Int) + 256 * (d7 : Int)), .int .i64 ((d8 : Int) + 256 * (d9 : Int))] 86)).drew.cell? ⟨w2.heap.size, 2, none⟩ = _ := l2
            obtain ⟨⟨a0, a1, a2⟩, af, ab9⟩ := box3 hb9
            have HA9 := hide ab9
            clear hb9 ab9
            generalize (w2.alloc (.cells #[.int .i64 (d5 : Nat), .int .i64 ((d6 : Int) + 256 * (d7 : Int)), .int .i64 ((d8 : Int) + 256 * (d9 : Int))] 86)).drew = w3 at *
            have h4 : 64 < d5 ∨ (d5 ≤ 64 ∧ 200 < d6 + 256 * d7) ∨ (d5 ≤ 64 ∧ d6 + 256 * d7 ≤ 200 ∧ d6 + 256 * d7 < d8 + 256 * d9) ∨ (d5 ≤ 64 ∧ d6 + 256 * d7 ≤ 200 ∧ d8 + 256 * d9 ≤ d6 + 256 * d7) := by omega
            rcases h4 with q1 | ⟨q1, q2⟩ | ⟨q1, q2, q3⟩ | ⟨q1, q2, q3⟩
            · have r1 : (64 : Int) < (d5 : Int) := by omega
              have HE := hide (show Sp.headErr d = 10 from (unhide HER).trans (if_pos (by rw [(unhide HWN).1, (unhide HWN).2.1, (unhide HWN).2.2]; omega)))
              go_wp2
              have hg := hide (set3 a0 a1 a2 (unhide HA9) (Nat.le_refl _) (.int .i64 0) (.int .i64 0) (.int .i64 0))
              refine bodyPost_ret (v := .tuple #[.agg #[.int .i64 0, .int .i64 0, .int .i64 0], .int .i64 10]) (by simp [results, Tryd.results48, go_sem, (unhide hg).1, (unhide hg).2.1, (unhide hg).2.2.1]) rfl ?_
              rw [unhide HE]
              exact ⟨0, 0, 0, rfl, fun h => by omega, (unhide hg).2.2.2⟩
            · have r1 : ¬ (64 : Int) < (d5 : Int) := by omega
              have r2 : (200 : Int) < (d6 : Int) + 256 * (d7 : Int) := by omega
              have HE := hide (show Sp.headErr d = 10 from (unhide HER).trans (if_pos (by rw [(unhide HWN).1, (unhide HWN).2.1, (unhide HWN).2.2]; omega)))
              go_wp2
              have hg := hide (set3 a0 a1 a2 (unhide HA9) (Nat.le_refl _) (.int .i64 0) (.int .i64 0) (.int .i64 0))
              refine bodyPost_ret (v := .tuple #[.agg #[.int .i64 0, .int .i64 0, .int .i64 0], .int .i64 10]) (by simp [results, Tryd.results48, go_sem, (unhide hg).1, (unhide hg).2.1, (unhide hg).2.2.1]) rfl ?_
              rw [unhide HE]
              exact ⟨0, 0, 0, rfl, fun h => by omega, (unhide hg).2.2.2⟩
            · have r1 : ¬ (64 : Int) < (d5 : Int) := by omega
              have r2 : ¬ (200 : Int) < (d6 : Int) + 256 * (d7 : Int) := by omega
              have r3 : (d6 : Int) + 256 * (d7 : Int) < (d8 : Int) + 256 * (d9 : Int) := by omega
              have HE := hide (show Sp.headErr d = 10 from (unhide HER).trans (if_pos (by rw [(unhide HWN).1, (unhide HWN).2.1, (unhide HWN).2.2]; omega)))
              go_wp2
              have hg := hide (set3 a0 a1 a2 (unhide HA9) (Nat.le_refl _) (.int .i64 0) (.int .i64 0) (.int .i64 0))
              refine bodyPost_ret (v := .tuple #[.agg #[.int .i64 0, .int .i64 0, .int .i64 0], .int .i64 10]) (by simp [results, Tryd.results48, go_sem, (unhide hg).1, (unhide hg).2.1, (unhide hg).2.2.1]) rfl ?_
              rw [unhide HE]
              exact ⟨0, 0, 0, rfl, fun h => by omega, (unhide hg).2.2.2⟩
            · have r1 : ¬ (64 : Int) < (d5 : Int) := by omega
              have r2 : ¬ (200 : Int) < (d6 : Int) + 256 * (d7 : Int) := by omega
              have r3 : ¬ (d6 : Int) + 256 * (d7 : Int) < (d8 : Int) + 256 * (d9 : Int) := by omega
              have HE := hide (show Sp.headErr d = 0 from (unhide HER).trans (if_neg (by rw [(unhide HWN).1, (unhide HWN).2.1, (unhide HWN).2.2]; omega)))
              go_wp2
              have hg := hide (set3 a0 a1 a2 (unhide HA9) (Nat.le_refl _) (.int .i64 (d5 : Nat)) (.int .i64 ((d6 : Int) + 256 * (d7 : Int))) (.int .i64 ((d8 : Int) + 256 * (d9 : Int))))
              refine bodyPost_ret (v := .tuple #[.agg #[.int .i64 (d5 : Nat), .int .i64 ((d6 : Int) + 256 * (d7 : Int)), .int .i64 ((d8 : Int) + 256 * (d9 : Int))], .int .i64 0]) (by simp [results, Tryd.results48, go_sem, (unhide hg).1, (unhide hg).2.1, (unhide hg).2.2.1]) rfl ?_
              rw [unhide HE]
              exact ⟨d5, d6 + 256 * d7, d8 + 256 * d9, by simp, fun _ => ⟨(unhide HWN).1.symm, (unhide HWN).2.1.symm, (unhide HWN).2.2.symm⟩, (unhide hg).2.2.2⟩
        · rw [decide_eq_false hsum]
          rw [if_pos (by simpa using hsum)] at HER
          go_wp2
          have hg := hide (set3 a0 a1 a2 (unhide HAB) (Nat.le_refl _) (.int .i64 0) (.int .i64 0) (.int .i64 0))
          refine bodyPost_ret (v := .tuple #[.agg #[.int .i64 0, .int .i64 0, .int .i64 0], .int .i64 9]) (by simp [results, Tryd.results48, go_sem, (unhide hg).1, (unhide hg).2.1, (unhide hg).2.2.1]) rfl ?_
          rw [unhide HER]
          exact ⟨0, 0, 0, rfl, fun h => by omega, (unhide hg).2.2.2⟩
      · have hvi : ¬ (d4 : Int) = 1 := by omega
        have hvb : ((d4 : Int) == 1) = false := by rw [beq_eq_false_iff_ne]; omega
        rw [if_pos (by simpa using hver)] at HER
        generalize decide (Sp.sealed (d.take 10) = d.take 14) = right at *
        go_wp2
        have hg := hide (set3 a0 a1 a2 (unhide HAB) (Nat.le_refl _) (.int .i64 0) (.int .i64 0) (.int .i64 0))
        refine bodyPost_ret (v := .tuple #[.agg #[.int .i64 0, .int .i64 0, .int .i64 0], .int .i64 8]) (by simp [results, Tryd.results48, go_sem, (unhide hg).1, (unhide hg).2.1, (unhide hg).2.2.1]) rfl ?_
        rw [unhide HER]
        exact ⟨0, 0, 0, rfl, fun h => by omega, (unhide hg).2.2.2⟩
    · rw [decide_eq_false hmag]
      rw [if_pos (by simpa using hmag)] at HER
      generalize decide (Sp.sealed (d.take 10) = d.take 14) = right at *
      go_wp2
      have hg := hide (set3 a0 a1 a2 (unhide HAB) (Nat.le_refl _) (.int .i64 0) (.int .i64 0) (.int .i64 0))
      refine bodyPost_ret (v := .tuple #[.agg #[.int .i64 0, .int .i64 0, .int .i64 0], .int .i64 7]) (by simp [results, Tryd.results48, go_sem, (unhide hg).1, (unhide hg).2.1, (unhide hg).2.2.1]) rfl ?_
      rw [unhide HER]
      exact ⟨0, 0, 0, rfl, fun h => by omega, (unhide hg).2.2.2⟩
end Ld
end Go.Proofs.YtolkjadklbchfaaDoor
