import Derived.Test.YtolkjadklbchfaaGreatDoorV2
import Derived.Test.YtolkjadklbchfaaGreatDoorT1
/- Walks of the document's answer: marks. -/
open Go Go.RowKit
namespace Go.Proofs.YtolkjadklbchfaaGreatDoor
namespace Rf
open Mem Pr Ld

set_option maxHeartbeats 4000000 in
theorem rmarks_any (p : Option Addr) (B c n m : Nat) (bs : List Nat) (w : World) (hr : Rd B w (.slice p bs.length c) (By bs)) (hB : B ≤ w.heap.size) (hx : ∀ x ∈ bs, x < 256) (hn : n ≤ 200) (hm : m ≤ n) (hl : bs.length = (mlen n m + 7) / 8) :
    Calls Tryz.prog 75 #[.int .i64 (n : Nat), .int .i64 (m : Nat), .slice p bs.length c] w fun e w' => ∃ (v : Value) (zs : List Nat), e = .returned v ∧ zs.length ≤ m ∧ (∀ ms, Sp.Good n m (Sp.rd bs (mlen n m)) ms → zs = ms) ∧ w'.ownsRow w.heap.size 3 1 v zs.length (I64 (NI zs)) ∧ Below w.heap.size w w' := by
  have hsm := mlen_small (n := n) (m := m) hn (by omega)
  have HP := hide (power_any n m w (by omega) (by omega))
  have hq := pow_small (n := n) (m := m) (by omega)
  have hmq : m * Sp.pow n m ≤ 200 * 10 := Nat.mul_le_mul (by omega) hq
  have HBIT : Hid (∀ (j : Nat), j < mlen n m → ∀ w' : World, Below w.heap.size w w' → Calls Tryz.prog 104 #[.slice p bs.length c, .int .i64 (j : Nat)] w' fun e w2 => e = .returned (.bool (Sp.bitOf bs j)) ∧ w2 = w') :=
    fun j hj w' hb => bit_any p B bs.length c bs j w' (hr.below (hb.mono hB)) (by omega) hx (by omega) (by omega)
  obtain ⟨l, hle⟩ : ∃ l, l = Sp.rd bs (mlen n m) := ⟨_, rfl⟩
  have hbit : ∀ j, j < mlen n m → l[j]? = some (Sp.bitOf bs j) := fun j hj => by rw [hle]; exact Sp.rd_at _ _ _ hj
  have htw : Sp.tw (Sp.pow n m) = 2 ^ Sp.pow n m := rfl
  have htp : 0 < Sp.tw (Sp.pow n m) := Nat.pow_pos (by omega)
  have htl : Sp.tw (Sp.pow n m) ≤ 1024 := by
    rw [htw]
    exact Nat.le_trans (Nat.pow_le_pow_right (by omega) hq) (by decide)
  have hml : mlen n m = m * Sp.pow n m + (m + n / Sp.tw (Sp.pow n m) + 1) := rfl
  have HNO : Hid (∀ k zs, k < m + n / Sp.tw (Sp.pow n m) + 1 → Sp.Rdm n m l k zs → Sp.bitOf bs (m * Sp.pow n m + k) = false → Sp.Rdm n m l (k + 1) zs) := by
    intro k zs hk h hb
    exact h.no (by rw [hbit _ (by omega), hb])
  have HYES : Hid (∀ k zs, k < m + n / Sp.tw (Sp.pow n m) + 1 → Sp.Rdm n m l k zs → zs.length < m → Sp.bitOf bs (m * Sp.pow n m + k) = true → Sp.Rdm n m l (k + 1) (zs ++ [(k - zs.length) * Sp.tw (Sp.pow n m) + Sp.lowN (Sp.pow n m) l zs.length])) := by
    intro k zs hk h hz hb
    exact h.yes (by rw [hbit _ (by omega), hb]) hz
  have HDONE : Hid (∀ k zs, Sp.Rdm n m l k zs → (m + n / Sp.tw (Sp.pow n m) + 1 ≤ k ∨ m ≤ zs.length) → ∀ ms, Sp.Good n m (Sp.rd bs (mlen n m)) ms → zs = ms) := by
    intro k zs h hd
    rw [← hle]
    exact h.done hd
  have HLO : Hid (∀ i j, i < m → j < Sp.pow n m → i * Sp.pow n m + j < mlen n m ∧ Sp.lowN (Sp.pow n m) l i / 2 ^ j = 2 * (Sp.lowN (Sp.pow n m) l i / 2 ^ (j + 1)) + (Sp.bitOf bs (i * Sp.pow n m + j)).toNat) := by
    intro i j hi hj
    have h1 : i * Sp.pow n m + j < mlen n m := by
      have : (i + 1) * Sp.pow n m ≤ m * Sp.pow n m := Nat.mul_le_mul_right _ hi
      rw [Nat.add_mul] at this
      have h2 : m * Sp.pow n m ≤ mlen n m := Nat.le_add_right _ _
      omega
    refine ⟨h1, ?_⟩
    rw [Sp.lowN_step hj, hbit _ h1]
    rfl
  have HLT : Hid (∀ i, Sp.lowN (Sp.pow n m) l i < 1024 ∧ Sp.lowN (Sp.pow n m) l i / 2 ^ Sp.pow n m = 0) := by
    intro i
    have := Sp.lowN_lt (Sp.pow n m) l i
    exact ⟨Nat.lt_of_lt_of_le this (by rw [← htw]; exact htl), Nat.div_eq_of_lt this⟩
  have HS0 := hide (Sp.Rdm.start n m l)
  have HSZ : Hid (∀ k zs, Sp.Rdm n m l k zs → zs.length ≤ k ∧ zs.length ≤ m) := fun k zs h => ⟨h.1, h.2.1⟩
  have HBK : Hid (∀ k, k < m + n / Sp.tw (Sp.pow n m) + 1 → m * Sp.pow n m + k < mlen n m) := fun k hk => by rw [hml]; omega
  clear hr hx hl hbit htw hml hle
  generalize mlen n m = len at *
  generalize Sp.pow n m = q at *
  generalize Sp.tw q = tw at *
  obtain ⟨H, hH⟩ : ∃ H, H = m + n / tw + 1 := ⟨_, rfl⟩
  rw [← hH] at HNO HYES HDONE HBK
  have hdv : n / tw ≤ n := Nat.div_le_self _ _
  have hH2 : H ≤ 401 := by omega
  have hdi : (m : Int) + (n : Int) / (tw : Int) + 1 = (H : Int) := by rw [hH]; simp
  have hd0 : (0 : Int) ≤ (n : Int) / (tw : Int) := by rw [← Int.natCast_ediv]; exact Int.natCast_nonneg _
  have hd1 : (n : Int) / (tw : Int) ≤ 200 := by rw [← Int.natCast_ediv]; omega
  clear hH hdv
  go_enter Tryz.func75, Tryz.ntmps75
  go_wp2_with (go_at_call 73; refine at_same (unhide HP) ?_)
  go_loopw [9, 10] (fun ou kk wr => ∃ (k : Nat) (zs : List Nat), k ≤ H ∧ kk = .int .i64 (k : Nat) ∧ Sp.Rdm n m l k zs ∧ wr.ownsRow w.heap.size 3 1 ou zs.length (I64 (NI zs)) ∧ Below w.heap.size w wr) (fun _ kk _ => H - (intOf kk).toNat)
  case atStart => exact ⟨0, [], Nat.zero_le _, rfl, unhide HS0, World.ownsRow_nil _ _ _ _, Below.refl _ _⟩
  case round =>
    obtain ⟨k, zs, hk, rfl, hrd, hown, hbel⟩ := hrel
    clear HS0
    obtain ⟨po, co, rfl, _⟩ := own_slice hown
    obtain ⟨hz1, hz2⟩ := unhide HSZ k zs hrd
    have hsize := hbel.size
    have HST := hide (And.intro hown hbel)
    have HRD := hide hrd
    by_cases hlt : k < H
    · by_cases hzm : zs.length < m
      · have HB1 := hide (unhide HBIT (m * q + k) (unhide HBK k hlt) wr hbel)
        rw [show ((m * q + k : Nat) : Int) = (m : Int) * (q : Int) + (k : Int) from by simp] at HB1
        have hp1 : (0 : Int) ≤ (m : Int) * (q : Int) ∧ (m : Int) * (q : Int) ≤ 2000 := by rw [show (m : Int) * (q : Int) = ((m * q : Nat) : Int) from by simp]; omega
        obtain ⟨hp1a, hp1b⟩ := hp1
        clear hown hbel hrd
        cases hb : Sp.bitOf bs (m * q + k) with
        | false =>
          have HN := hide (unhide HNO k zs hlt (unhide HRD) hb)
          rw [hb] at HB1
          clear hb
          go_wp2_with (go_at_call 104; refine at_same (unhide HB1) ?_)
          go_roundw
          case rel => exact ⟨k + 1, zs, by omega, by go_num, unhide HN, (unhide HST).1, (unhide HST).2⟩
          case measure => simp [intOf]; omega
        | true =>
          have HY := hide (unhide HYES k zs hlt (unhide HRD) hzm hb)
          rw [hb] at HB1
          clear hb
          obtain ⟨hlo1, hlo2⟩ := unhide HLT zs.length
          have HLI : Hid (∀ j, j < q → zs.length * q + j < len ∧ Sp.lowN q l zs.length / 2 ^ j = 2 * (Sp.lowN q l zs.length / 2 ^ (j + 1)) + (Sp.bitOf bs (zs.length * q + j)).toNat) := fun j hj => unhide HLO zs.length j hzm hj
          have hzq : zs.length * q ≤ 200 * 10 := Nat.mul_le_mul (by omega) hq
          have HLO2 := hide hlo2
          clear hlo2
          generalize Sp.lowN q l zs.length = lo at *
          generalize hzl : zs.length = i at *
          have HZL := hide hzl
          clear hzl
          have hp2 : (0 : Int) ≤ (i : Int) * (q : Int) ∧ (i : Int) * (q : Int) ≤ 2000 := by rw [show (i : Int) * (q : Int) = ((i * q : Nat) : Int) from by simp]; omega
          obtain ⟨hp2a, hp2b⟩ := hp2
          go_wp2_with (go_at_call 104; refine at_same (unhide HB1) ?_)
          go_loopw [13, 14] (fun pp jj wq => ∃ b : Nat, b ≤ q ∧ jj = .int .i64 ((b : Int) - 1) ∧ pp = .int .i64 ((lo / 2 ^ b : Nat) : Int) ∧ wq.ownsRow w.heap.size 3 1 (.slice po i co) i (I64 (NI zs)) ∧ Below w.heap.size w wq) (fun _ jj _ => (intOf jj + 1).toNat)
          case atStart => exact ⟨q, Nat.le_refl _, by go_num, by rw [unhide HLO2]; rfl, (unhide HST).1, (unhide HST).2⟩
          case round =>
            obtain ⟨b, hbq, rfl, rfl, hown, hbel⟩ := hrel
            clear HST
            have hsize2 := hbel.size
            by_cases hb0 : 0 < b
            · obtain ⟨b', rfl⟩ : ∃ b', b = b' + 1 := ⟨b - 1, by omega⟩
              obtain ⟨hin, hstep⟩ := unhide HLI b' (by omega)
              have HB2 := hide (unhide HBIT (i * q + b') hin _ hbel)
              have HST2 := hide (And.intro hown hbel)
              rw [show ((i * q + b' : Nat) : Int) = (i : Int) * (q : Int) + (b' : Int) from by simp] at HB2
              rw [show ((b' + 1 : Nat) : Int) - 1 = (b' : Int) from by omega]
              have hsm2 : lo / 2 ^ b' < 1024 := Nat.lt_of_le_of_lt (Nat.div_le_self _ _) hlo1
              clear hown hbel
              generalize lo / 2 ^ (b' + 1) = x at *
              cases hbb : Sp.bitOf bs (i * q + b') with
              | false =>
                rw [hbb] at HB2 hstep
                clear hbb
                simp only [Bool.toNat_false, Nat.add_zero] at hstep
                have hx2 : 2 * x < 1024 := by rw [← hstep]; exact hsm2
                have HSTP := hide hstep
                clear hstep hsm2
                go_wp2_with (go_at_call 104; refine at_same (unhide HB2) ?_)
                go_roundw
                case rel => exact ⟨b', by omega, by go_num, by rw [unhide HSTP]; go_num, (unhide HST2).1, (unhide HST2).2⟩
                case measure => simp [intOf]
              | true =>
                rw [hbb] at HB2 hstep
                clear hbb
                simp only [Bool.toNat_true] at hstep
                have hx2 : 2 * x + 1 < 1024 := by rw [← hstep]; exact hsm2
                have HSTP := hide hstep
                clear hstep hsm2
                go_wp2_with (go_at_call 104; refine at_same (unhide HB2) ?_)
                go_roundw
                case rel => exact ⟨b', by omega, by go_num, by rw [unhide HSTP]; go_num, (unhide HST2).1, (unhide HST2).2⟩
                case measure => simp [intOf]
            · have hbe : b = 0 := by omega
              subst hbe
              have hx0 : lo / 2 ^ 0 = lo := by simp
              rw [hx0]
              clear hx0
              have HST2 := hide (And.intro hown hbel)
              clear hown hbel
              have hki : ((k - i : Nat) : Int) = (k : Int) - (i : Int) := by omega
              have hpr : (k - i) * tw ≤ 401 * 1024 := Nat.mul_le_mul (by omega) htl
              have hval : ((((k - i) * tw + lo : Nat)) : Int) = ((k : Int) - (i : Int)) * (tw : Int) + (lo : Int) := by rw [← hki]; simp
              have hpp0 : (0 : Int) ≤ ((k : Int) - (i : Int)) * (tw : Int) := by rw [← hki, ← Int.natCast_mul]; exact Int.natCast_nonneg _
              have hpp1 : ((k : Int) - (i : Int)) * (tw : Int) ≤ 410624 := by rw [← hki, ← Int.natCast_mul]; omega
              have HV := hide hval
              clear hval hki hpr
              have hroom : i ≤ 10000000000000 := by omega
              go_wp2_with (at_builtin; (refine wpList_app _ rfl (.tmp 67) (.tmp 75) 36 rfl w.heap.size 3 (.int .i64 0) 8 Tryz.underlying36 Ty.int rfl _ _ _ rfl ((unhide HST2).1.alloc _) _ _ rfl ⟨_, Rd.one wr (.int .i64 (((k : Int) - (i : Int)) * (tw : Int) + (lo : Int))) 3⟩ (one_int _ _) (room1 hroom) (room8b hroom) (by simp; omega) ?_; intro v1 w5 hown1 hg1 hat1; have R1 := (app_below (unhide HST2).2 (Nat.le_refl _) (unhide HST2).1 hg1).1; have HR5 := hide (And.intro hown1 R1); clear R1 hown1 hg1 hat1))
              go_roundw
              case rel =>
                refine ⟨k + 1, zs ++ [(k - i) * tw + lo], by omega, by go_num, unhide HY, ?_, (unhide HR5).2⟩
                rw [NI_app, List.length_append, unhide HZL, show NI [(k - i) * tw + lo] = [(((k - i) * tw + lo : Nat) : Int)] from rfl, unhide HV]
                exact (unhide HR5).1
              case measure => simp [intOf]; omega
      · have HD := hide (unhide HDONE k zs hrd (Or.inr (by omega)))
        clear hown hbel hrd
        go_wp2
        go_ret
        exact ⟨_, zs, rfl, hz2, unhide HD, (unhide HST).1, (unhide HST).2⟩
    · have HD := hide (unhide HDONE k zs hrd (Or.inl (by omega)))
      clear hown hbel hrd
      go_wp2
      go_ret
      exact ⟨_, zs, rfl, hz2, unhide HD, (unhide HST).1, (unhide HST).2⟩
end Rf
end Go.Proofs.YtolkjadklbchfaaGreatDoor
