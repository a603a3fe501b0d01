import Derived.Test.YtolkjadklbchfaaGreatDoorV3
import Derived.Test.YtolkjadklbchfaaGreatDoorD5
import Derived.Test.YtolkjadklbchfaaGreatDoorL3
import Derived.Test.YtolkjadklbchfaaGreatDoorG4
import Derived.BigQuiet
/- Walks of the document's answer: Load. -/
open Go Go.RowKit
namespace Go.Proofs.YtolkjadklbchfaaGreatDoor
namespace Rf
open Mem Pr Ld

/-- What the document's Load tells. -/
def RLoadRes (lo : Nat) (w' : World) (d : List Nat) (V M : Value) (f : Nat) : Prop :=
  (f = Sp.headErr d ∧ Sp.headErr d ≠ 0) ∨ (Sp.headErr d = 0 ∧ f = bodyErr d ∧ bodyErr d ≠ 0) ∨
  (Sp.headErr d = 0 ∧ bodyErr d = 0 ∧ f = 13 ∧ ∀ vs ms, Fits vs ms → Sp.encode vs ms ≠ d) ∨
  (∃ vs ms, f = 0 ∧ Fits vs ms ∧ Sp.encode vs ms = d ∧ w'.ownsRow lo 34 1 V vs.length (U64 vs) ∧ w'.ownsRow lo 3 1 M ms.length (I64 (NI ms)))

theorem magic_iff {d : List Nat} (h : 4 ≤ d.length) : d.take 4 = [83, 84, 82, 65] ↔ (d[0]?.getD 0 = 83 ∧ d[1]?.getD 0 = 84 ∧ d[2]?.getD 0 = 82 ∧ d[3]?.getD 0 = 65) := by
  match d, h with
  | a :: b :: c :: e :: l, _ => simp

theorem enc_short {vs ms : List Nat} (h : Fits vs ms) : (Sp.encode vs ms).length ≤ 1000000000000000 := by
  have hw := Sp.widthOf_le vs h.big
  have h1 := sz_small hw h.len h.mlen 0
  have h2 := sz_small hw h.len h.mlen 1
  have h3 := sz_small hw h.len h.mlen 2
  have f3 : fr (Sp.widthOf vs) vs.length ms.length 3 = sz (Sp.widthOf vs) vs.length ms.length 0 + 4 + (sz (Sp.widthOf vs) vs.length ms.length 1 + 4) + (sz (Sp.widthOf vs) vs.length ms.length 2 + 4) := by simp [fr]
  rw [enc_rest, List.length_append, Sp.sealed_len, (rest_parts h).1, f3]
  have : (Sp.head (Sp.widthOf vs) vs.length ms.length).length = 10 := rfl
  omega

set_option maxHeartbeats 4000000 in
set_option maxRecDepth 100000 in
theorem rload_any (B : Nat) (p : Option Addr) (n c : Nat) (d : List Nat) (w : World) (h : Rd B w (.slice p n c) (By d)) (hB : B ≤ w.heap.size) (hx : ∀ x ∈ d, x < 256) (hn : n ≤ 1000000000000000) :
    Calls Tryz.prog 26 #[.slice p n c] w fun e w' => ∃ (pv : Option Addr) (nv cv : Nat) (pm : Option Addr) (nm cm : Nat) (f : Nat), e = .returned (.tuple #[.slice pv nv cv, .slice pm nm cm, .int .i64 (f : Nat)]) ∧ RLoadRes w.heap.size w' d (.slice pv nv cv) (.slice pm nm cm) f ∧ Below w.heap.size w w' := by
  obtain ⟨hl, hlc⟩ := h.len
  rw [By_len] at hl
  by_cases h14 : n < 14
  · have HE : Hid (Sp.headErr d = 6) := by rw [Hid, Sp.headErr, if_pos (by omega)]
    clear h hx hl
    go_enter Tryz.func26, Tryz.ntmps26
    go_wp2
    go_ret3
    exact ⟨none, 0, 0, none, 0, 0, 6, rfl, .inl ⟨(unhide HE).symm, by rw [unhide HE]; omega⟩, Below.refl _ _⟩
  · obtain ⟨b, o, rfl, hq1, hq2⟩ := h.at 0 _ (By_at d 0 (by omega))
    clear hq1 hq2
    have HC : Hid (∀ (w' : World), Below w.heap.size w w' → ∀ j, j < 14 → w'.cell? ⟨b, o + j, none⟩ = some (.int .u8 (d[j]?.getD 0 : Nat))) := by
      intro w' hb j hj
      obtain ⟨b', o', hp, _, hc⟩ := (h.below (hb.mono hB)).at j _ (By_at d j (by omega))
      simp only [Option.some.injEq, Addr.mk.injEq] at hp
      obtain ⟨rfl, rfl, _⟩ := hp
      rw [hc, List.getElem?_eq_getElem (by omega)]
      rfl
    have c0 : w.cell? ⟨b, o, none⟩ = some (.int .u8 (d[0]?.getD 0 : Nat)) := unhide HC w (Below.refl _ _) 0 (by omega)
    have c1 := unhide HC w (Below.refl _ _) 1 (by omega)
    have c2 := unhide HC w (Below.refl _ _) 2 (by omega)
    have c3 := unhide HC w (Below.refl _ _) 3 (by omega)
    have c4 := unhide HC w (Below.refl _ _) 4 (by omega)
    have HER : Hid (Sp.headErr d = if d.take 4 ≠ [83, 84, 82, 65] then 7 else if d[4]?.getD 0 ≠ 1 then 8 else if Sp.sealed (d.take 10) ≠ d.take 14 then 9 else if 64 < Sp.hW d ∨ 200 < Sp.hN d ∨ Sp.hN d < Sp.hM d then 10 else 0) := by rw [Hid, Sp.headErr, if_neg (by omega)]
    have hmi := magic_iff (d := d) (by omega)
    have h14i : ¬ (n : Int) < 14 := by omega
    have HR1 : Hid (∀ f w' V M, Sp.headErr d = f → f ≠ 0 → RLoadRes w.heap.size w' d V M f) := fun f w' V M h1 h2 => .inl ⟨h1.symm, by rw [h1]; exact h2⟩
    by_cases hmag : d.take 4 = [83, 84, 82, 65]
    · rw [if_neg (by simpa using hmag)] at HER
      obtain ⟨e0, e1, e2, e3⟩ := hmi.1 hmag
      rw [e0] at c0
      replace c0 : w.cell? ⟨b, o, none⟩ = some (.int .u8 83) := c0
      rw [e1] at c1
      replace c1 : w.cell? ⟨b, o + 1, none⟩ = some (.int .u8 84) := c1
      rw [e2] at c2
      replace c2 : w.cell? ⟨b, o + 2, none⟩ = some (.int .u8 82) := c2
      rw [e3] at c3
      replace c3 : w.cell? ⟨b, o + 3, none⟩ = some (.int .u8 65) := c3
      clear e0 e1 e2 e3 hmi hmag
      by_cases hver : d[4]?.getD 0 = 1
      · rw [if_neg (by simpa using hver)] at HER
        rw [hver] at c4
        replace c4 : w.cell? ⟨b, o + 4, none⟩ = some (.int .u8 1) := c4
        have HPT := hide (part_any B b o n c 80 d w h hB hx (by omega) (by omega) hn)
        rw [show (80 + 7) / 8 = 10 from rfl] at HPT
        by_cases hsum : Sp.sealed (d.take 10) = d.take 14
        · rw [if_neg (by simpa using hsum)] at HER
          unfold PartRes at HPT
          rw [show 10 + 4 = 14 from rfl, decide_eq_true hsum] at HPT
          have hd5 := Sp.getD_lt hx (by omega) 5
          have hd6 := Sp.getD_lt hx (by omega) 6
          have hd7 := Sp.getD_lt hx (by omega) 7
          have hd8 := Sp.getD_lt hx (by omega) 8
          have hd9 := Sp.getD_lt hx (by omega) 9
          have HWN : Hid (Sp.hW d = d[5]?.getD 0 ∧ Sp.hN d = d[6]?.getD 0 + 256 * d[7]?.getD 0 ∧ Sp.hM d = d[8]?.getD 0 + 256 * d[9]?.getD 0) := ⟨rfl, rfl, rfl⟩
          have HRR := hide h
          have HXX := hide hx
          have HLL := hide hl
          clear h hx hl hsum hver
          generalize h5 : d[5]?.getD 0 = d5 at *
          generalize h6 : d[6]?.getD 0 = d6 at *
          generalize h7 : d[7]?.getD 0 = d7 at *
          generalize h8 : d[8]?.getD 0 = d8 at *
          generalize h9 : d[9]?.getD 0 = d9 at *
          have H5 := hide h5
          have H6 := hide h6
          have H7 := hide h7
          have H8 := hide h8
          have H9 := hide h9
          clear h5 h6 h7 h8 h9
          obtain ⟨N', hN'⟩ : ∃ N', N' = d6 + 256 * d7 := ⟨_, rfl⟩
          obtain ⟨M', hM'⟩ : ∃ M', M' = d8 + 256 * d9 := ⟨_, rfl⟩
          have hNi : (d6 : Int) + 256 * (d7 : Int) = (N' : Int) := by omega
          have hMi : (d8 : Int) + 256 * (d9 : Int) = (M' : Int) := by omega
          rw [← hN', ← hM'] at HWN
          have hNb : N' ≤ 70000 := by omega
          have hMb : M' ≤ 70000 := by omega
          clear hN' hM'
          go_enter Tryz.func26, Tryz.ntmps26
          go_wp2_with fail
          refine (unhide HPT).mono ?_
          rintro e w1 ⟨⟨o2, rfl, ho2⟩, hb1⟩
          have c5 := unhide HC w1 hb1 5 (by omega)
          have c6 := unhide HC w1 hb1 6 (by omega)
          have c7 := unhide HC w1 hb1 7 (by omega)
          have c8 := unhide HC w1 hb1 8 (by omega)
          have c9 := unhide HC w1 hb1 9 (by omega)
          rw [unhide H5] at c5
          rw [unhide H6] at c6
          rw [unhide H7] at c7
          rw [unhide H8] at c8
          rw [unhide H9] at c9
          have HB1 := hide hb1
          clear hb1 HPT c0 c1 c2 c3 c4
          go_wp2_with fail
          go_quiet (fail)
          go_wp2_with fail
          go_quiet (fail)
          by_cases hbd : 64 < d5 ∨ 200 < N' ∨ N' < M'
          · have HE := hide ((unhide HER).trans (if_pos (by rw [(unhide HWN).1, (unhide HWN).2.1, (unhide HWN).2.2]; exact hbd)))
            have HRES := hide (fun (nq : Nat) => (show ∃ (pv : Option Addr) (nv cv : Nat) (pm : Option Addr) (nm cm : Nat) (f : Nat), Ending.returned (.tuple #[.slice none 0 0, .slice none 0 0, .int .i64 10]) = Ending.returned (.tuple #[.slice pv nv cv, .slice pm nm cm, .int .i64 (f : Nat)]) ∧ RLoadRes w.heap.size (w1.drewN nq) d (.slice pv nv cv) (.slice pm nm cm) f ∧ Below w.heap.size w (w1.drewN nq) from ⟨none, 0, 0, none, 0, 0, 10, rfl, unhide HR1 _ _ _ _ (unhide HE) (by omega), bel_trans (unhide HB1) (drewN_bel _ _)⟩))
            by_cases q1 : 64 < d5
            · have r1 : (64 : Int) < (d5 : Int) := by omega
              go_wp2
              go_ret3
              exact unhide HRES _
            · have r1 : ¬ (64 : Int) < (d5 : Int) := by omega
              by_cases q2 : 200 < N'
              · have r2 : (200 : Int) < (N' : Int) := by omega
                go_wp2
                go_ret3
                exact unhide HRES _
              · have r2 : ¬ (200 : Int) < (N' : Int) := by omega
                have r3 : (N' : Int) < (M' : Int) := by omega
                go_wp2
                go_ret3
                exact unhide HRES _
          · have HE := hide ((unhide HER).trans (if_neg (by rw [(unhide HWN).1, (unhide HWN).2.1, (unhide HWN).2.2]; exact hbd)))
            have r1 : ¬ (64 : Int) < (d5 : Int) := by omega
            have r2 : ¬ (200 : Int) < (N' : Int) := by omega
            have r3 : ¬ (N' : Int) < (M' : Int) := by omega
            have hW : d5 ≤ 64 := by omega
            have hN : N' ≤ 200 := by omega
            have hM : M' ≤ N' := by omega
            clear hbd HER c5 c6 c7 c8 c9 H5 H6 H7 H8 H9 hNi hMi hd5 hd6 hd7 hd8 hd9 HC hNb hMb
            have hq := pow_small (n := N') (m := M') (by omega)
            have hz0 := wn_small hW hN
            have hz2 := mlen_small (n := N') (m := M') hN (by omega)
            have hmq : M' * Sp.pow N' M' ≤ 200 * 10 := Nat.mul_le_mul (by omega) hq
            have htp : 0 < Sp.tw (Sp.pow N' M') := Nat.pow_pos (by omega)
            have htl : Sp.tw (Sp.pow N' M') ≤ 1024 := Nat.le_trans (Nat.pow_le_pow_right (by omega) hq) (by decide)
            have E0 : (d5 : Int) * (N' : Int) = ((d5 * N' : Nat) : Int) := by simp
            have E2 : (M' : Int) * (Sp.pow N' M' : Int) + (M' : Int) + (N' : Int) / (Sp.tw (Sp.pow N' M') : Int) + 1 = ((mlen N' M' : Nat) : Int) := by
              have : mlen N' M' = M' * Sp.pow N' M' + (M' + N' / Sp.tw (Sp.pow N' M') + 1) := rfl
              rw [this]
              simp
              omega
            have m0 : (0 : Int) ≤ (M' : Int) * (Sp.pow N' M' : Int) := by rw [← Int.natCast_mul]; exact Int.natCast_nonneg _
            have m1 : (M' : Int) * (Sp.pow N' M' : Int) ≤ 2000 := by rw [← Int.natCast_mul]; omega
            have v0 : (0 : Int) ≤ (N' : Int) / (Sp.tw (Sp.pow N' M') : Int) := by rw [← Int.natCast_ediv]; exact Int.natCast_nonneg _
            have v1 : (N' : Int) / (Sp.tw (Sp.pow N' M') : Int) ≤ 200 := by
              have : N' / Sp.tw (Sp.pow N' M') ≤ N' := Nat.div_le_self _ _
              rw [← Int.natCast_ediv]
              omega
            have HK : Hid (sz d5 N' M' 0 = (d5 * N' + 7) / 8 ∧ sz d5 N' M' 1 = (2 * N' + 7) / 8 ∧ sz d5 N' M' 2 = (mlen N' M' + 7) / 8) := ⟨rfl, rfl, rfl⟩
            have F0 : (((d5 * N' : Nat) : Int) + 7) / 8 = (sz d5 N' M' 0 : Int) := by rw [(unhide HK).1]; omega
            have F1 : (2 * (N' : Int) + 7) / 8 = (sz d5 N' M' 1 : Int) := by rw [(unhide HK).2.1]; omega
            have F2 : (((mlen N' M' : Nat) : Int) + 7) / 8 = (sz d5 N' M' 2 : Int) := by rw [(unhide HK).2.2]; omega
            have s0 := sz_small hW hN hM 0
            have s1 := sz_small hW hN hM 1
            have s2 := sz_small hW hN hM 2
            have HPW := hide (fun w' => power_any N' M' w' (by omega) (by omega))
            have HF : Hid (fr d5 N' M' 1 = sz d5 N' M' 0 + 4 ∧ fr d5 N' M' 2 = sz d5 N' M' 0 + 4 + (sz d5 N' M' 1 + 4) ∧ fr d5 N' M' 3 = sz d5 N' M' 0 + 4 + (sz d5 N' M' 1 + 4) + (sz d5 N' M' 2 + 4)) := ⟨by simp [fr], by simp [fr], by simp [fr]⟩
            generalize Sp.pow N' M' = q at *
            generalize Sp.tw q = tw at *
            generalize hm0 : mlen N' M' = z2 at *
            generalize hm1 : d5 * N' = z0 at *
            have HZ := hide (And.intro hm0 hm1)
            clear hm0 hm1
            go_wp2_with fail
            generalize hw2 : w1.drewN _ = w2 at *
            have hb2 : Below w.heap.size w w2 := by rw [← hw2]; exact bel_trans (unhide HB1) (drewN_bel _ _)
            have HB2 := hide hb2
            clear hw2 hb2 HB1
            refine at_same (unhide HPW _) ?_
            have HBX : Hid (∀ w' : World, Below (w2.alloc (.cells #[.int .i64 (z0 : Nat), .int .i64 (2 * (N' : Int)), .int .i64 (z2 : Nat)] 116)).heap.size (w2.alloc (.cells #[.int .i64 (z0 : Nat), .int .i64 (2 * (N' : Int)), .int .i64 (z2 : Nat)] 116)) w' → w'.cell? ⟨w2.heap.size, 0, none⟩ = some (.int .i64 (z0 : Nat)) ∧ w'.cell? ⟨w2.heap.size, 1, none⟩ = some (.int .i64 (2 * (N' : Int))) ∧ w'.cell? ⟨w2.heap.size, 2, none⟩ = some (.int .i64 (z2 : Nat))) := fun w' hb => ⟨later_cell (box5 w2 _ _ 0 _ rfl) hb, later_cell (box5 w2 _ _ 1 _ rfl) hb, later_cell (box5 w2 _ _ 2 _ rfl) hb⟩
            obtain ⟨a0, a1, a2⟩ := unhide HBX _ (Below.refl _ _)
            go_wp2_with fail
            go_loop [14, 15] (fun vv ii => ∃ k v : Nat, ii = .int .i64 (k : Nat) ∧ vv = .int .i64 (v : Nat) ∧ ((k = 0 ∧ v = 14) ∨ (k = 1 ∧ v = 14 + sz d5 N' M' 0 + 4) ∨ (k = 2 ∧ v = 14 + sz d5 N' M' 0 + 4 + sz d5 N' M' 1 + 4) ∨ (k = 3 ∧ v = 14 + sz d5 N' M' 0 + 4 + sz d5 N' M' 1 + 4 + sz d5 N' M' 2 + 4))) (fun _ ii => 3 - (intOf ii).toNat)
            case atStart => exact ⟨0, 14, rfl, rfl, .inl ⟨rfl, rfl⟩⟩
            case round =>
              obtain ⟨k, v, rfl, rfl, hkv⟩ := hrel
              rcases hkv with ⟨rfl, hv⟩ | ⟨rfl, hv⟩ | ⟨rfl, hv⟩ | ⟨rfl, hv⟩
              · subst hv
                go_wp2
                go_round
                case rel => exact ⟨1, _, rfl, by go_num, .inr (.inl ⟨rfl, rfl⟩)⟩
                case measure => simp [intOf]
              · have hv2 : v ≤ 100000 := by omega
                have HV : Hid ((v : Int) + (sz d5 N' M' 1 : Int) + 4 = ((14 + sz d5 N' M' 0 + 4 + sz d5 N' M' 1 + 4 : Nat) : Int)) := by rw [Hid]; omega
                clear hv
                go_wp2
                go_round
                case rel => exact ⟨2, _, rfl, by rw [← unhide HV], .inr (.inr (.inl ⟨rfl, rfl⟩))⟩
                case measure => simp [intOf]
              · have hv2 : v ≤ 100000 := by omega
                have HV : Hid ((v : Int) + (sz d5 N' M' 2 : Int) + 4 = ((14 + sz d5 N' M' 0 + 4 + sz d5 N' M' 1 + 4 + sz d5 N' M' 2 + 4 : Nat) : Int)) := by rw [Hid]; omega
                clear hv
                go_wp2
                go_round
                case rel => exact ⟨3, _, rfl, by rw [← unhide HV], .inr (.inr (.inr ⟨rfl, rfl⟩))⟩
                case measure => simp [intOf]
              · by_cases hnv : n = v
                · have hnb : ((n : Int) == (v : Int)) = true := by rw [beq_iff_eq]; omega
                  have hni : (n : Int) = (v : Int) := by omega
                  have ho2' : o2 = o + 14 := by rcases ho2 with g | g <;> omega
                  subst ho2'
                  have hnf : n - 14 = fr d5 N' M' 3 := by rw [(unhide HF).2.2]; omega
                  have hbe : ∀ f : Nat, (if secOk d5 N' M' (d.drop 14) 0 = true ∧ secOk d5 N' M' (d.drop 14) 1 = true ∧ secOk d5 N' M' (d.drop 14) 2 = true then 0 else 12) = f → bodyErr d = f := by
                    intro f hf
                    rw [bodyErr, if_neg, (unhide HWN).1, (unhide HWN).2.1, (unhide HWN).2.2]
                    · exact hf
                    · rw [(unhide HWN).1, (unhide HWN).2.1, (unhide HWN).2.2, List.length_drop, ← unhide HLL, hnf]
                      simp
                  have HBE := hide hbe
                  obtain ⟨hk0, hk1, hk2⟩ := unhide HK
                  obtain ⟨hf1, hf2, hf3⟩ := unhide HF
                  have hD : Rd B w (.slice (some ⟨b, o + 14, none⟩) (n - 14) (c - 14)) (By (d.drop 14)) := rd_back (unhide HRR) (by omega)
                  have hxD : ∀ x ∈ d.drop 14, x < 256 := fun x hm => unhide HXX x (List.mem_of_mem_drop hm)
                  have HP0 : Hid (∀ w' : World, Below w.heap.size w w' → Calls Tryz.prog 72 #[.slice (some ⟨b, o + 14, none⟩) (n - 14) (c - 14), .int .i64 (z0 : Nat)] w' fun e w2 => e = .returned (.tuple #[.slice (some ⟨b, o + 14, none⟩) (sz d5 N' M' 0) (c - 14), .slice (some ⟨b, o + 14 + fr d5 N' M' 1, none⟩) (n - 14 - fr d5 N' M' 1) (c - 14 - fr d5 N' M' 1), .bool (secOk d5 N' M' (d.drop 14) 0)]) ∧ Below w'.heap.size w' w2) := by
                    intro w' hb
                    refine (part_any B b (o + 14) (n - 14) (c - 14) z0 (d.drop 14) w' (hD.below (hb.mono hB)) (Nat.le_trans hB hb.size) hxD (by omega) (by omega) (by omega)).mono ?_
                    rintro e w5 ⟨⟨o3, rfl, h3⟩, hb5⟩
                    rw [← hk0] at h3 ⊢
                    have : o3 = o + 14 + fr d5 N' M' 1 := by rcases h3 with g | g <;> omega
                    subst this
                    refine ⟨?_, hb5⟩
                    unfold secOk
                    rw [show fr d5 N' M' 0 = 0 from rfl, List.drop_zero, hf1]
                  have HP1 : Hid (∀ w' : World, Below w.heap.size w w' → Calls Tryz.prog 72 #[.slice (some ⟨b, o + 14 + fr d5 N' M' 1, none⟩) (n - 14 - fr d5 N' M' 1) (c - 14 - fr d5 N' M' 1), .int .i64 (2 * (N' : Int))] w' fun e w2 => e = .returned (.tuple #[.slice (some ⟨b, o + 14 + fr d5 N' M' 1, none⟩) (sz d5 N' M' 1) (c - 14 - fr d5 N' M' 1), .slice (some ⟨b, o + 14 + fr d5 N' M' 2, none⟩) (n - 14 - fr d5 N' M' 2) (c - 14 - fr d5 N' M' 2), .bool (secOk d5 N' M' (d.drop 14) 1)]) ∧ Below w'.heap.size w' w2) := by
                    intro w' hb
                    have := part_any B b (o + 14 + fr d5 N' M' 1) (n - 14 - fr d5 N' M' 1) (c - 14 - fr d5 N' M' 1) (2 * N') ((d.drop 14).drop (fr d5 N' M' 1)) w' (rd_back (hD.below (hb.mono hB)) (by omega)) (Nat.le_trans hB hb.size) (fun x hm => hxD x (List.mem_of_mem_drop hm)) (by omega) (by omega) (by omega)
                    rw [show ((2 * N' : Nat) : Int) = 2 * (N' : Int) from by simp] at this
                    refine this.mono ?_
                    rintro e w5 ⟨⟨o3, rfl, h3⟩, hb5⟩
                    rw [← hk1] at *
                    have : o3 = o + 14 + fr d5 N' M' 2 := by rcases h3 with g | g <;> omega
                    subst this
                    refine ⟨?_, hb5⟩
                    rw [show n - 14 - fr d5 N' M' 1 - (sz d5 N' M' 1 + 4) = n - 14 - fr d5 N' M' 2 from by omega, show c - 14 - fr d5 N' M' 1 - (sz d5 N' M' 1 + 4) = c - 14 - fr d5 N' M' 2 from by omega]
                    rfl
                  have HP2 : Hid (∀ w' : World, Below w.heap.size w w' → Calls Tryz.prog 72 #[.slice (some ⟨b, o + 14 + fr d5 N' M' 2, none⟩) (n - 14 - fr d5 N' M' 2) (c - 14 - fr d5 N' M' 2), .int .i64 (z2 : Nat)] w' fun e w2 => (∃ o3 n3 c3, e = .returned (.tuple #[.slice (some ⟨b, o + 14 + fr d5 N' M' 2, none⟩) (sz d5 N' M' 2) (c - 14 - fr d5 N' M' 2), .slice (some ⟨b, o3, none⟩) n3 c3, .bool (secOk d5 N' M' (d.drop 14) 2)])) ∧ Below w'.heap.size w' w2) := by
                    intro w' hb
                    refine (part_any B b (o + 14 + fr d5 N' M' 2) (n - 14 - fr d5 N' M' 2) (c - 14 - fr d5 N' M' 2) z2 ((d.drop 14).drop (fr d5 N' M' 2)) w' (rd_back (hD.below (hb.mono hB)) (by omega)) (Nat.le_trans hB hb.size) (fun x hm => hxD x (List.mem_of_mem_drop hm)) (by omega) (by omega) (by omega)).mono ?_
                    rintro e w5 ⟨⟨o3, rfl, h3⟩, hb5⟩
                    rw [← hk2] at *
                    exact ⟨⟨_, _, _, rfl⟩, hb5⟩
                  obtain ⟨us, hul, hult, hlay⟩ := Sp.lay_surj d5 N' (Sp.rd ((d.drop 14).take (sz d5 N' M' 0)) (d5 * N')) (by rw [Sp.rd_len])
                  have hDl : (d.drop 14).length = fr d5 N' M' 3 := by rw [List.length_drop, ← unhide HLL, hnf]
                  have hl0 : ((d.drop 14).take (sz d5 N' M' 0)).length = sz d5 N' M' 0 := by rw [List.length_take, hDl]; omega
                  have hl2 : (((d.drop 14).drop (fr d5 N' M' 2)).take (sz d5 N' M' 2)).length = sz d5 N' M' 2 := by rw [List.length_take, List.length_drop, hDl]; omega
                  have HVL : Hid (∀ w' : World, Below w.heap.size w w' → Calls Tryz.prog 74 #[.int .i64 (N' : Nat), .int .i64 (d5 : Nat), .slice (some ⟨b, o + 14, none⟩) (sz d5 N' M' 0) (c - 14)] w' fun e w5 => ∃ v, e = .returned v ∧ w5.ownsRow w'.heap.size 34 1 v N' (U64 us) ∧ Below w'.heap.size w' w5) := by
                    intro w' hb
                    have hr0 := rd_front (k := sz d5 N' M' 0) (hD.below (hb.mono hB)) (by omega)
                    have := values_any (some ⟨b, o + 14, none⟩) B (c - 14) d5 N' ((d.drop 14).take (sz d5 N' M' 0)) us w' (by rw [hl0]; exact hr0) (Nat.le_trans hB hb.size) (fun x hm => hxD x (List.mem_of_mem_take hm)) hW hN (by rw [hl0]; rfl) hul hult hlay
                    rwa [hl0] at this
                  have HMK : Hid (∀ w' : World, Below w.heap.size w w' → Calls Tryz.prog 75 #[.int .i64 (N' : Nat), .int .i64 (M' : Nat), .slice (some ⟨b, o + 14 + fr d5 N' M' 2, none⟩) (sz d5 N' M' 2) (c - 14 - fr d5 N' M' 2)] w' fun e w5 => ∃ (v : Value) (zs : List Nat), e = .returned v ∧ zs.length ≤ M' ∧ (∀ ms, Sp.Good N' M' (Sp.rd (((d.drop 14).drop (fr d5 N' M' 2)).take (sz d5 N' M' 2)) (mlen N' M')) ms → zs = ms) ∧ w5.ownsRow w'.heap.size 3 1 v zs.length (I64 (NI zs)) ∧ Below w'.heap.size w' w5) := by
                    intro w' hb
                    have hr2 := rd_front (k := sz d5 N' M' 2) (rd_back (k := fr d5 N' M' 2) (hD.below (hb.mono hB)) (by omega)) (by omega)
                    have := rmarks_any (some ⟨b, o + 14 + fr d5 N' M' 2, none⟩) B (c - 14 - fr d5 N' M' 2) N' M' (((d.drop 14).drop (fr d5 N' M' 2)).take (sz d5 N' M' 2)) w' (by rw [hl2]; exact hr2) (Nat.le_trans hB hb.size) (fun x hm => hxD x (List.mem_of_mem_drop (List.mem_of_mem_take hm))) hN hM (by rw [hl2]; rfl)
                    rwa [hl2] at this
                  have HKEY : Hid (∀ (zs : List Nat), (∀ ms, Sp.Good N' M' (Sp.rd (((d.drop 14).drop (fr d5 N' M' 2)).take (sz d5 N' M' 2)) (mlen N' M')) ms → zs = ms) → ∀ vs ms, Fits vs ms → Sp.encode vs ms = d → us = vs ∧ zs = ms ∧ zs.length = M') := by
                    intro zs hzs vs ms hf hen
                    obtain ⟨_, q1, q2, q3⟩ := enc_head hf
                    obtain ⟨g1, g2, g3⟩ := unhide HWN
                    rw [hen, g1] at q1
                    rw [hen, g2] at q2
                    rw [hen, g3] at q3
                    have hre : d.drop 14 = rest vs ms := by rw [← hen, enc_drop]
                    subst q1
                    subst q2
                    subst q3
                    rw [hre] at hzs hlay
                    have hzm := hzs ms ⟨hf.rises, hf.mlt, rfl, (enc_marks hf).symm⟩
                    exact ⟨enc_layers hf hul hult hlay, hzm, by rw [hzm]⟩
                  have HSM : Hid (∀ (q : Option Addr) (m e : Nat) (ys : List Nat) (w' : World), Rd w'.heap.size w' (.slice q m e) (By ys) → Below w.heap.size w w' → m ≤ 1000000000000000 → Calls Tryz.prog 76 #[.slice q m e, .slice (some ⟨b, o, none⟩) n c] w' fun e w5 => e = .returned (.bool (decide (ys = d))) ∧ Below w'.heap.size w' w5) :=
                    fun q m e ys w' hr hb hm => same_any w'.heap.size B q (some ⟨b, o, none⟩) m e n c _ _ w' hr ((unhide HRR).below (hb.mono hB)) (Nat.le_refl _) (Nat.le_trans hB hb.size) hm hn
                  have HUS := hide (And.intro hul hult)
                  have HNV := hide hv
                  clear hbe hk0 hk1 hk2 hf1 hf2 hf3 hD hxD hul hult hlay hDl hl0 hl2 hnf ho2 hv hnv HRR HXX HLL HK HF HPW HZ HWN
                  generalize fr d5 N' M' 1 = f1 at *
                  generalize fr d5 N' M' 2 = f2 at *
                  generalize hb0' : secOk d5 N' M' (d.drop 14) 0 = t0 at *
                  generalize hb1' : secOk d5 N' M' (d.drop 14) 1 = t1 at *
                  generalize hb2' : secOk d5 N' M' (d.drop 14) 2 = t2 at *
                  clear hb0' hb1' hb2'
                  go_wp2_with fail
                  refine (unhide HP0 _ (bel_trans (unhide HB2) (alloc_bel _ _))).mono ?_
                  rintro e w3 ⟨rfl, hb3⟩
                  clear a0 a1 a2
                  obtain ⟨a0, a1, a2⟩ := unhide HBX _ hb3
                  have HB3 := hide hb3
                  clear hb3 HP0
                  go_wp2_with fail
                  refine (unhide HP1 _ (bel_trans (bel_trans (unhide HB2) (alloc_bel _ _)) (unhide HB3))).mono ?_
                  rintro e w4 ⟨rfl, hb4⟩
                  clear a0 a1 a2
                  have hb4' := bel_trans (unhide HB3) hb4
                  obtain ⟨a0, a1, a2⟩ := unhide HBX _ hb4'
                  have HB4 := hide hb4'
                  clear hb4 hb4' HP1 HB3
                  go_wp2_with fail
                  refine (unhide HP2 _ (bel_trans (bel_trans (unhide HB2) (alloc_bel _ _)) (unhide HB4))).mono ?_
                  rintro e w5 ⟨⟨o3, n3, c3, rfl⟩, hb5⟩
                  have HB5 := hide (bel_trans (bel_trans (bel_trans (unhide HB2) (alloc_bel _ _)) (unhide HB4)) hb5)
                  clear a0 a1 a2 hb5 HP2 HB4 HB2 HBX
                  have H12 : Hid (bodyErr d = 12 → ∃ (pv : Option Addr) (nv cv : Nat) (pm : Option Addr) (nm cm : Nat) (f : Nat), Ending.returned (.tuple #[.slice none 0 0, .slice none 0 0, .int .i64 12]) = Ending.returned (.tuple #[.slice pv nv cv, .slice pm nm cm, .int .i64 (f : Nat)]) ∧ RLoadRes w.heap.size w5 d (.slice pv nv cv) (.slice pm nm cm) f ∧ Below w.heap.size w w5) := fun g => ⟨none, 0, 0, none, 0, 0, 12, rfl, .inr (.inl ⟨unhide HE, g.symm, by rw [g]; omega⟩), unhide HB5⟩
                  cases t0 with
                  | false =>
                    have HX := hide (unhide H12 (unhide HBE 12 (by simp)))
                    clear HBE
                    go_wp2
                    go_ret3
                    exact unhide HX
                  | true =>
                    cases t1 with
                    | false =>
                      have HX := hide (unhide H12 (unhide HBE 12 (by simp)))
                      clear HBE
                      go_wp2
                      go_ret3
                      exact unhide HX
                    | true =>
                      cases t2 with
                      | false =>
                        have HX := hide (unhide H12 (unhide HBE 12 (by simp)))
                        clear HBE
                        go_wp2
                        go_ret3
                        exact unhide HX
                      | true =>
                        have HBO := hide (unhide HBE 0 (by simp))
                        clear HBE H12
                        have H13 : Hid (∀ w' : World, Below w.heap.size w w' → (∀ vs ms, Fits vs ms → Sp.encode vs ms ≠ d) → ∃ (pv : Option Addr) (nv cv : Nat) (pm : Option Addr) (nm cm : Nat) (f : Nat), Ending.returned (.tuple #[.slice none 0 0, .slice none 0 0, .int .i64 13]) = Ending.returned (.tuple #[.slice pv nv cv, .slice pm nm cm, .int .i64 (f : Nat)]) ∧ RLoadRes w.heap.size w' d (.slice pv nv cv) (.slice pm nm cm) f ∧ Below w.heap.size w w') := fun w' hb g => ⟨none, 0, 0, none, 0, 0, 13, rfl, .inr (.inr (.inl ⟨unhide HE, unhide HBO, rfl, g⟩)), hb⟩
                        go_wp2_with fail
                        refine (unhide HVL _ (unhide HB5)).mono ?_
                        rintro e w6 ⟨v6, rfl, ho6, hb6⟩
                        obtain ⟨pv6, cv6, rfl, _⟩ := own_slice ho6
                        have HV6 := hide ho6
                        have HB6 := hide hb6
                        clear ho6 hb6 HVL
                        go_wp2_with fail
                        refine (unhide HMK _ (bel_trans (unhide HB5) (unhide HB6))).mono ?_
                        rintro e w7 ⟨v7, zs, rfl, hzl, hzs, ho7, hb7⟩
                        obtain ⟨pv7, cv7, rfl, _⟩ := own_slice ho7
                        have HZ7 := hide ho7
                        have HV7 := hide (own_later (unhide HV6) hb7)
                        have HB7 := hide (bel_trans (bel_trans (unhide HB5) (unhide HB6)) hb7)
                        have HKZ := hide (unhide HKEY zs hzs)
                        clear ho7 hb7 HMK HKEY hzs HV6
                        by_cases hzlt : zs.length < M'
                        · have hzi : (zs.length : Int) < (M' : Int) := by omega
                          have HX := hide (unhide H13 w7 (unhide HB7) (fun vs ms hf hen => by have := (unhide HKZ vs ms hf hen).2.2; omega))
                          clear hzlt
                          go_wp2
                          go_ret3
                          exact unhide HX
                        · have hzi : ¬ (zs.length : Int) < (M' : Int) := by omega
                          have hzle : zs.length ≤ 200 := by omega
                          have HFT := hide (fit_any pv6 N' cv6 pv7 _ zs.length cv7 (NI zs) w7 (Rd.owned (unhide HZ7)) (by omega) (by omega))
                          clear hzlt
                          go_wp2_with fail
                          refine (unhide HFT).mono ?_
                          rintro e w8 ⟨rfl, nq8, rfl⟩
                          have HB8 := hide (bel_trans (unhide HB7) (drewN_bel w7 nq8))
                          have HV8 := hide (own_later (unhide HV7) (drewN_bel w7 nq8))
                          have HZ8 := hide (own_later (unhide HZ7) (drewN_bel w7 nq8))
                          generalize w7.drewN nq8 = w8 at *
                          clear HFT HV7 HZ7
                          rcases Lw.fit_cases N' (NI zs) with ⟨g1, _⟩ | ⟨_, g2, g3⟩ | ⟨_, g2, g3⟩
                          · omega
                          · rw [g3]
                            have HX := hide (unhide H13 w8 (unhide HB8) (fun vs ms hf hen => by
                              obtain ⟨k1, k2, _⟩ := unhide HKZ vs ms hf hen
                              have := upTo_NI (n := N') hf.rises (by rw [← (unhide HUS).1, k1]; exact hf.mlt) 0 (fun x _ => Nat.zero_le x)
                              rw [← k2, show ((0 : Nat) : Int) = 0 from rfl, g2] at this
                              exact absurd this (by simp)))
                            clear g2 g3
                            go_wp2
                            go_ret3
                            exact unhide HX
                          · rw [g3]
                            obtain ⟨ns, hzn, hnlt, hnl, hnr⟩ := upTo_fits2 g2
                            have hzn2 : zs = ns := by
                              have := congrArg (List.map Int.toNat) hzn
                              simpa [NI, Function.comp_def] using this
                            subst hzn2
                            have hfit : Fits us zs := ⟨fun x hm => Nat.lt_of_lt_of_le ((unhide HUS).2 x hm) (Nat.le_trans (Nat.pow_le_pow_right (by omega) hW) (by decide)), by rw [(unhide HUS).1]; exact hnlt, by rw [(unhide HUS).1]; exact hN, by rw [(unhide HUS).1]; exact hnl, hnr⟩
                            have HEN := hide (Rf.encode_any pv6 N' cv6 us pv7 zs.length cv7 zs w8.heap.size w8 (Rd.owned (unhide HV8)) (Rd.owned (unhide HZ8)) (Nat.le_refl _) hfit.big hnlt (by omega) (by omega))
                            have HFIT := hide hfit
                            clear hzn hnlt hnl hnr hfit g2 g3
                            go_wp2_with fail
                            refine (unhide HEN).mono ?_
                            rintro e w9 ⟨v9, rfl, ho9, hb9⟩
                            obtain ⟨pv9, cv9, rfl, _⟩ := own_slice ho9
                            have hb09 := bel_trans (unhide HB8) hb9
                            have hel : (By (Sp.encode us zs)).length ≤ 1000000000000000 := by
                              rw [By_len]
                              exact enc_short (unhide HFIT)
                            have HS9 := hide (unhide HSM pv9 _ cv9 (Sp.encode us zs) w9 (Rd.owned ho9) hb09 hel)
                            have HV9 := hide (own_later (unhide HV8) hb9)
                            have HZ9 := hide (own_later (unhide HZ8) hb9)
                            have HB9 := hide hb09
                            clear ho9 hb9 hb09 hel HEN HV8 HZ8 HSM
                            generalize (By (Sp.encode us zs)).length = len9 at *
                            go_wp2_with fail
                            refine (unhide HS9).mono ?_
                            rintro e w10 ⟨rfl, hb10⟩
                            have HBA := hide (bel_trans (unhide HB9) hb10)
                            have HVA := hide (own_base (base' := w.heap.size) (own_later (unhide HV9) hb10) (unhide HB5).size)
                            have HZA := hide (own_base (base' := w.heap.size) (own_later (unhide HZ9) hb10) (bel_trans (unhide HB5) (unhide HB6)).size)
                            clear hb10 HS9 HV9 HZ9 HB9
                            by_cases heq : Sp.encode us zs = d
                            · rw [decide_eq_true heq]
                              have HQ := hide heq
                              clear heq
                              go_wp2
                              go_ret3
                              refine ⟨pv6, N', cv6, pv7, zs.length, cv7, 0, rfl, .inr (.inr (.inr ⟨us, zs, rfl, unhide HFIT, unhide HQ, ?_, unhide HZA⟩)), unhide HBA⟩
                              rw [(unhide HUS).1]
                              exact unhide HVA
                            · rw [decide_eq_false heq]
                              have HX := hide (unhide H13 w10 (unhide HBA) (fun vs ms hf hen => by
                                obtain ⟨k1, k2, _⟩ := unhide HKZ vs ms hf hen
                                rw [k1, k2] at heq
                                exact heq hen))
                              clear heq
                              go_wp2
                              go_ret3
                              exact unhide HX
                · have hnb : ((n : Int) == (v : Int)) = false := by rw [beq_eq_false_iff_ne]; omega
                  have hni : ¬ (n : Int) = (v : Int) := by omega
                  have HBE : Hid (bodyErr d = 11) := by
                    rw [Hid, bodyErr, if_pos]
                    rw [(unhide HWN).1, (unhide HWN).2.1, (unhide HWN).2.2, (unhide HF).2.2, List.length_drop, ← unhide HLL]
                    omega
                  clear hv
                  go_wp2
                  go_ret3
                  exact ⟨none, 0, 0, none, 0, 0, 11, rfl, .inr (.inl ⟨unhide HE, (unhide HBE).symm, by rw [unhide HBE]; omega⟩), bel_trans (unhide HB2) (alloc_bel _ _)⟩
        · rw [if_pos (by simpa using hsum)] at HER
          unfold PartRes at HPT
          rw [show 10 + 4 = 14 from rfl, decide_eq_false hsum] at HPT
          clear h hx hl HC hsum hver
          go_enter Tryz.func26, Tryz.ntmps26
          go_wp2_with fail
          refine (unhide HPT).mono ?_
          rintro e w1 ⟨⟨o2, rfl, ho2⟩, hb1⟩
          have HB1 := hide hb1
          clear hb1 ho2 HPT
          go_wp2
          go_ret3
          exact ⟨none, 0, 0, none, 0, 0, 9, rfl, unhide HR1 _ _ _ _ (unhide HER) (by omega), unhide HB1⟩
      · have hvi : ¬ ((d[4]?.getD 0 : Nat) : Int) = 1 := by omega
        have hvb : (((d[4]?.getD 0 : Nat) : Int) == 1) = false := by rw [beq_eq_false_iff_ne]; omega
        rw [if_pos (by simpa using hver)] at HER
        clear h hx hl HC hver
        generalize d[4]?.getD 0 = d4 at *
        go_enter Tryz.func26, Tryz.ntmps26
        go_wp2
        go_ret3
        exact ⟨none, 0, 0, none, 0, 0, 8, rfl, unhide HR1 _ _ _ _ (unhide HER) (by omega), Below.refl _ _⟩
    · rw [if_pos (by simpa using hmag)] at HER
      have hor : ¬ (d[0]?.getD 0 = 83 ∧ d[1]?.getD 0 = 84 ∧ d[2]?.getD 0 = 82 ∧ d[3]?.getD 0 = 65) := fun g => hmag (hmi.2 g)
      clear h hx hl HC hmi hmag c4
      generalize d[0]?.getD 0 = d0 at *
      generalize d[1]?.getD 0 = d1 at *
      generalize d[2]?.getD 0 = d2 at *
      generalize d[3]?.getD 0 = d3 at *
      have key : ∀ (x y : Nat), x ≠ y → ((x : Int) == (y : Int)) = false := fun x y h => by rw [beq_eq_false_iff_ne]; omega
      by_cases q0 : d0 = 83
      · subst q0
        by_cases q1 : d1 = 84
        · subst q1
          by_cases q2 : d2 = 82
          · subst q2
            have q3 : d3 ≠ 65 := fun g => hor ⟨rfl, rfl, rfl, g⟩
            have r3 : ((d3 : Int) == 65) = false := key d3 65 q3
            have r4 : ¬ (d3 : Int) = 65 := by omega
            clear key hor
            go_enter Tryz.func26, Tryz.ntmps26
            go_wp2
            go_ret3
            exact ⟨none, 0, 0, none, 0, 0, 7, rfl, unhide HR1 _ _ _ _ (unhide HER) (by omega), Below.refl _ _⟩
          · have r3 : ((d2 : Int) == 82) = false := key d2 82 q2
            have r4 : ¬ (d2 : Int) = 82 := by omega
            clear key hor
            go_enter Tryz.func26, Tryz.ntmps26
            go_wp2
            go_ret3
            exact ⟨none, 0, 0, none, 0, 0, 7, rfl, unhide HR1 _ _ _ _ (unhide HER) (by omega), Below.refl _ _⟩
        · have r3 : ((d1 : Int) == 84) = false := key d1 84 q1
          have r4 : ¬ (d1 : Int) = 84 := by omega
          clear key hor
          go_enter Tryz.func26, Tryz.ntmps26
          go_wp2
          go_ret3
          exact ⟨none, 0, 0, none, 0, 0, 7, rfl, unhide HR1 _ _ _ _ (unhide HER) (by omega), Below.refl _ _⟩
      · have r3 : ((d0 : Int) == 83) = false := key d0 83 q0
        have r4 : ¬ (d0 : Int) = 83 := by omega
        clear key hor
        go_enter Tryz.func26, Tryz.ntmps26
        go_wp2
        go_ret3
        exact ⟨none, 0, 0, none, 0, 0, 7, rfl, unhide HR1 _ _ _ _ (unhide HER) (by omega), Below.refl _ _⟩
end Rf
end Go.Proofs.YtolkjadklbchfaaGreatDoor
