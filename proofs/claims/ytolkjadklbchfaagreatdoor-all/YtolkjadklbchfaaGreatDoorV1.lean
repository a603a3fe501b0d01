import Derived.Test.YtolkjadklbchfaaGreatDoorD2
import Derived.Test.YtolkjadklbchfaaGreatDoorD3
/- Walks of the document's answer: same, part. -/
open Go Go.RowKit
namespace Go.Proofs.YtolkjadklbchfaaGreatDoor
namespace Rf
open Mem Pr Ld

theorem take_eq_all {xs ys : List Nat} (hl : xs.length = ys.length) {k : Nat} (hk : xs.length ≤ k) (h : xs.take k = ys.take k) : xs = ys := by
  rwa [List.take_of_length_le hk, List.take_of_length_le (by omega)] at h

set_option maxHeartbeats 1000000 in
theorem same_any (B1 B2 : Nat) (p q : Option Addr) (n c m d : Nat) (xs ys : List Nat) (w : World) (h1 : Rd B1 w (.slice p n c) (By xs)) (h2 : Rd B2 w (.slice q m d) (By ys)) (hB1 : B1 ≤ w.heap.size) (hB2 : B2 ≤ w.heap.size) (hn : n ≤ 1000000000000000) (hm : m ≤ 1000000000000000) :
    Calls Tryz.prog 76 #[.slice p n c, .slice q m d] w fun e w' => e = .returned (.bool (decide (xs = ys))) ∧ Below w.heap.size w w' := by
  obtain ⟨hl1, _⟩ := h1.len
  obtain ⟨hl2, _⟩ := h2.len
  rw [By_len] at hl1 hl2
  by_cases hnm : n = m
  · subst hnm
    have HR := hide (And.intro h1 h2)
    have HL := hide (And.intro hl1 hl2)
    clear h1 h2 hl1 hl2
    go_enter Tryz.func76, Tryz.ntmps76
    go_wp2
    go_loopw [5] (fun ii wr => ∃ k : Nat, k ≤ n ∧ ii = .int .i64 (k : Nat) ∧ xs.take k = ys.take k ∧ Below w.heap.size w wr) (fun ii _ => n - (intOf ii).toNat)
    case atStart => exact ⟨0, Nat.zero_le _, rfl, by simp, Below.refl _ _⟩
    case round =>
      obtain ⟨k, hk, rfl, htk, hbw⟩ := hrel
      by_cases hlt : k < n
      · have hk1 : k < xs.length := by rw [← (unhide HL).1]; exact hlt
        have hk2 : k < ys.length := by rw [← (unhide HL).2]; exact hlt
        obtain ⟨b1, o1, rfl, _, q1⟩ := ((unhide HR).1.below (hbw.mono hB1)).at k _ (By_at xs k hk1)
        obtain ⟨b2, o2, rfl, _, q2⟩ := ((unhide HR).2.below (hbw.mono hB2)).at k _ (By_at ys k hk2)
        have HBW := hide hbw
        clear hbw
        have HSN : Hid (xs[k] = ys[k] → xs.take (k + 1) = ys.take (k + 1)) := fun he => by rw [List.take_succ_eq_append_getElem hk1, List.take_succ_eq_append_getElem hk2, htk, he]
        have HNE : Hid (¬ xs[k] = ys[k] → ¬ xs = ys) := fun hne he => hne (by subst he; rfl)
        clear htk
        generalize xs[k] = x at *
        generalize ys[k] = y at *
        by_cases hxy : x = y
        · have HT := hide (unhide HSN hxy)
          have hb : ((x : Int) == (y : Int)) = true := by rw [beq_iff_eq]; omega
          have hb2 : (x == y) = true := by rw [beq_iff_eq]; exact hxy
          clear HSN HNE hxy hk1 hk2
          go_wp2_with fail
          go_quiet (fail)
          go_wp2
          go_roundw
          case rel => first | exact ⟨k + 1, by omega, by go_num, unhide HT, bel_trans (unhide HBW) (drewN_bel _ _)⟩ | ((repeat apply Exists.intro); refine ⟨?_, rfl⟩; exact ⟨k + 1, by omega, by go_num, unhide HT, bel_trans (unhide HBW) (drewN_bel _ _)⟩)
          case measure => simp [intOf]; omega
        · have HF := hide (unhide HNE hxy)
          have hb : ((x : Int) == (y : Int)) = false := by rw [beq_eq_false_iff_ne]; omega
          have hb2 : (x == y) = false := by rw [beq_eq_false_iff_ne]; exact hxy
          clear HSN HNE hxy hk1 hk2
          go_wp2_with fail
          go_quiet (fail)
          go_wp2
          go_ret
          exact ⟨by rw [decide_eq_false (unhide HF)]; rfl, bel_trans (unhide HBW) (drewN_bel _ _)⟩
      · have he : xs = ys := take_eq_all (by rw [← (unhide HL).1, ← (unhide HL).2]) (by rw [← (unhide HL).1]; omega) htk
        have HE := hide he
        have HBW := hide hbw
        clear htk he hbw
        go_wp2
        go_ret
        exact ⟨by rw [decide_eq_true (unhide HE)]; rfl, unhide HBW⟩
  · have hne : ¬ xs = ys := fun he => hnm (by rw [hl1, hl2, he])
    have hb : ((n : Int) == (m : Int)) = false := by rw [beq_eq_false_iff_ne]; omega
    rw [decide_eq_false hne]
    clear h1 h2 hl1 hl2 hne
    go_enter Tryz.func76, Tryz.ntmps76
    go_wp2
    go_ret
    exact ⟨rfl, Below.refl _ _⟩
end Rf
end Go.Proofs.YtolkjadklbchfaaGreatDoor
/- Walks of the document's answer: part. -/
open Go Go.RowKit
namespace Go.Proofs.YtolkjadklbchfaaGreatDoor
namespace Rf
open Mem Pr Ld

/-- What part tells: where the rest begins is plain where there is one. -/
def PartRes (b o nb c k : Nat) (d : List Nat) (e : Ending) : Prop := ∃ o2 : Nat, e = .returned (.tuple #[.slice (some ⟨b, o, none⟩) k c, .slice (some ⟨b, o2, none⟩) (nb - (k + 4)) (c - (k + 4)), .bool (decide (Sp.sealed (d.take k) = d.take (k + 4)))]) ∧ (o2 = o + (k + 4) ∨ c = k + 4)

set_option maxHeartbeats 1000000 in
theorem part_any (B b o nb c z : Nat) (d : List Nat) (w : World) (h : Rd B w (.slice (some ⟨b, o, none⟩) nb c) (By d)) (hB : B ≤ w.heap.size) (hx : ∀ x ∈ d, x < 256) (hz : z ≤ 100000) (hk : (z + 7) / 8 + 4 ≤ nb) (hnb : nb ≤ 1000000000000000) :
    Calls Tryz.prog 72 #[.slice (some ⟨b, o, none⟩) nb c, .int .i64 (z : Nat)] w fun e w' => PartRes b o nb c ((z + 7) / 8) d e ∧ Below w.heap.size w w' := by
  obtain ⟨hl, hlc⟩ := h.len
  rw [By_len] at hl
  obtain ⟨k, hkk⟩ : ∃ k, k = (z + 7) / 8 := ⟨_, rfl⟩
  have hki : ((z : Int) + 7) / 8 = (k : Int) := by omega
  rw [← hkk] at hk ⊢
  have hxk : ∀ x ∈ d.take k, x < 256 := fun x hm => hx x (List.mem_of_mem_take hm)
  have HSE := hide (sealed_v (rd_front h (show k ≤ nb by omega)) hxk (by rw [List.length_take]; omega))
  have HSM := hide (fun (q : Option Addr) (m e : Nat) (w' : World) (hr : Rd w'.heap.size w' (.slice q m e) (By (Sp.sealed (d.take k)))) (hb : Below w.heap.size w w') (hm : m ≤ 1000000000000000) => same_any w'.heap.size B q (some ⟨b, o, none⟩) m e (k + 4) c _ _ w' hr (rd_front (h.below (hb.mono hB)) hk) (Nat.le_refl _) (Nat.le_trans hB hb.size) hm (by omega))
  have hsl : (Sp.sealed (d.take k)).length = k + 4 := by rw [Sp.sealed_len, List.length_take]; omega
  have HPR : Hid (∀ o2, (o2 = o + (k + 4) ∨ c = k + 4) → PartRes b o nb c k d (.returned (.tuple #[.slice (some ⟨b, o, none⟩) k c, .slice (some ⟨b, o2, none⟩) (nb - (k + 4)) (c - (k + 4)), .bool (decide (Sp.sealed (d.take k) = d.take (k + 4)))]))) := fun o2 h2 => ⟨o2, rfl, h2⟩
  generalize PartRes b o nb c k d = PR at *
  have hkc : k + 4 ≤ c := by omega
  have hk1 : (k : Int) ≤ (nb : Int) := by omega
  have hk2 : (k : Int) + 4 ≤ (nb : Int) := by omega
  have hk3 : (nb : Int) ≤ (c : Int) := by omega
  have hkw : IntKind.i64.wrap ((k : Int) + 4) = (k : Int) + 4 := wrap_i64_of (by omega) (by omega)
  clear h hx hxk hl hkk
  generalize hSS : Sp.sealed (d.take k) = Z at *
  have HSL := hide hsl
  clear hsl hSS
  by_cases hc : c = k + 4
  · subst hc
    go_enter Tryz.func72, Tryz.ntmps72
    go_wp2_with fail
    refine (unhide HSE).mono ?_
    rintro e w1 ⟨v1, rfl, ho1, hb1⟩
    rw [By_len, unhide HSL] at ho1
    obtain ⟨q1, e1, rfl, _⟩ := own_slice ho1
    have HS1 := hide (unhide HSM q1 (k + 4) e1 w1 (Rd.owned ho1) hb1 (by omega))
    have HB1 := hide hb1
    clear ho1 hb1 HSE HSM
    go_wp2_with fail
    refine (unhide HS1).mono ?_
    rintro e w2 ⟨rfl, hb2⟩
    have HB2 := hide (bel_trans (unhide HB1) hb2)
    clear hb2 HS1
    generalize decide (Z = d.take (k + 4)) = ok at *
    go_wp2_with fail
    go_quiet (fail)
    go_wp2
    refine bodyPost_ret (v := .tuple #[.slice (some ⟨b, o, none⟩) k (k + 4), .slice (some ⟨b, o, none⟩) (nb - (k + 4)) ((k + 4) - (k + 4)), .bool ok]) (by simp [results, Tryz.results72, go_sem]) rfl ?_
    exact ⟨unhide HPR _ (by simp), bel_trans (unhide HB2) (drewN_bel _ _)⟩
  · have hci : ¬ (c : Int) = (k : Int) + 4 := by omega
    go_enter Tryz.func72, Tryz.ntmps72
    go_wp2_with fail
    refine (unhide HSE).mono ?_
    rintro e w1 ⟨v1, rfl, ho1, hb1⟩
    rw [By_len, unhide HSL] at ho1
    obtain ⟨q1, e1, rfl, _⟩ := own_slice ho1
    have HS1 := hide (unhide HSM q1 (k + 4) e1 w1 (Rd.owned ho1) hb1 (by omega))
    have HB1 := hide hb1
    clear ho1 hb1 HSE HSM
    go_wp2_with fail
    refine (unhide HS1).mono ?_
    rintro e w2 ⟨rfl, hb2⟩
    have HB2 := hide (bel_trans (unhide HB1) hb2)
    clear hb2 HS1
    generalize decide (Z = d.take (k + 4)) = ok at *
    go_wp2_with fail
    go_quiet (fail)
    go_wp2
    refine bodyPost_ret (v := .tuple #[.slice (some ⟨b, o, none⟩) k c, .slice (some ⟨b, o + (k + 4), none⟩) (nb - (k + 4)) (c - (k + 4)), .bool ok]) (by simp [results, Tryz.results72, go_sem]) rfl ?_
    exact ⟨unhide HPR _ (.inl rfl), bel_trans (unhide HB2) (drewN_bel _ _)⟩
end Rf
end Go.Proofs.YtolkjadklbchfaaGreatDoor
