import Derived.Test.YtolkjadklbchfaaDoorK1
/- Walks of the keeps: row. -/
open Go Go.RowKit
namespace Go.Proofs.YtolkjadklbchfaaDoor
namespace Kp
open Mem Rf Pr

/-- A row's variable at R while it grows; at H the result's cells. -/
structure Rw (H R : Nat) (w wr : World) (V M : Value) (vs ms : List Nat) : Prop where
  c0 : wr.cell? ⟨R, 0, none⟩ = some V
  c1 : wr.cell? ⟨R, 1, none⟩ = some M
  fz : ∀ j, wr.frozen? ⟨R, j, none⟩ = false
  r0 : wr.cell? ⟨H, 0, none⟩ = some (.slice none 0 0)
  r1 : wr.cell? ⟨H, 1, none⟩ = some (.slice none 0 0)
  rz : ∀ j, wr.frozen? ⟨H, j, none⟩ = false
  oV : wr.ownsRow (R + 1) 27 1 V vs.length (U64 vs)
  oM : wr.ownsRow (R + 1) 3 1 M ms.length (I64 (NI ms))
  ap : Ap V M
  bel : Below H w wr
  hs : R + 1 ≤ wr.heap.size
  hr : H < R

theorem low_block {R : Nat} {wr w1 : World} {v : Value} {o : Obj} (hg : (wr.alloc o).grownBy w1 v.ownBlock) (hv : ∀ k, v.ownBlock = some k → R + 1 ≤ k) (hs : R + 1 ≤ wr.heap.size) {g : Nat} (hgl : g < R + 1) : w1.heap[g]? = wr.heap[g]? := by
  rw [hg.block g (by simp; omega) (fun e => by have := hv g e.symm; omega)]
  exact Below.heap_alloc _ _ _ (by omega)

theorem Rw.low {H R : Nat} {w wr w1 : World} {V M : Value} {vs ms : List Nat} (h : Rw H R w wr V M vs ms) (hl : ∀ g, g < R + 1 → w1.heap[g]? = wr.heap[g]?) :
    w1.cell? ⟨R, 0, none⟩ = some V ∧ w1.cell? ⟨R, 1, none⟩ = some M ∧ (∀ j, w1.frozen? ⟨R, j, none⟩ = false) ∧ w1.cell? ⟨H, 0, none⟩ = some (.slice none 0 0) ∧ w1.cell? ⟨H, 1, none⟩ = some (.slice none 0 0) ∧ ∀ j, w1.frozen? ⟨H, j, none⟩ = false := by
  have e1 := hl R (by omega)
  have e0 := hl H (by have := h.hr; omega)
  exact ⟨(World.cell?_of_block (a := ⟨R, 0, none⟩) e1).trans h.c0, (World.cell?_of_block (a := ⟨R, 1, none⟩) e1).trans h.c1, fun j => (World.frozen?_of_block (a := ⟨R, j, none⟩) e1).trans (h.fz j),
    (World.cell?_of_block (a := ⟨H, 0, none⟩) e0).trans h.r0, (World.cell?_of_block (a := ⟨H, 1, none⟩) e0).trans h.r1, fun j => (World.frozen?_of_block (a := ⟨H, j, none⟩) e0).trans (h.rz j)⟩

theorem Rw.putV {H R : Nat} {w wr w1 : World} {V M V' : Value} {vs ms : List Nat} {x : Nat} {o : Obj} (h : Rw H R w wr V M vs ms) (hown : w1.ownsRow (R + 1) 27 1 V' (vs.length + [Value.int .u64 (x : Int)].length) (U64 vs ++ [Value.int .u64 (x : Int)])) (hg : (wr.alloc o).grownBy w1 V.ownBlock) (hat : V'.ownBlock = V.ownBlock ∨ V'.ownBlock = some (wr.alloc o).heap.size) :
    w1.cell? ⟨R, 0, none⟩ = some V ∧ w1.frozen? ⟨R, 0, none⟩ = false ∧ Rw H R w (w1.setCell ⟨R, 0, none⟩ V') V' M (vs ++ [x]) ms := by
  obtain ⟨d0, d1, df, e0, e1, ef⟩ := h.low (fun g hgl => low_block hg (fun k hk => (h.oV.lt k hk).1) h.hs hgl)
  have r2 := app_own h.oM h.ap.symm hg hat
  have s2 := hg.size
  simp at s2
  have hs := h.hs
  have hHR := h.hr
  have hb := h.bel.size
  have nn : ∀ g, V'.ownBlock = some g → g ≠ R := fun g hgg => by have := (hown.lt g hgg).1; omega
  refine ⟨d0, df 0, World.cell?_setCell_same _ _ _ d0, ?_, fun j => by simpa using df j, ?_, ?_, fun j => by simpa using ef j, ?_, ?_, ?_, ?_, by simp; omega, h.hr⟩
  · rw [World.cell?_setCell_other _ _ _ _ (by simp)]
    exact d1
  · rw [World.cell?_setCell_other _ _ _ _ (by simp)]
    exact e0
  · rw [World.cell?_setCell_other _ _ _ _ (by simp)]
    exact e1
  · rw [U64_app, List.length_append]
    exact own_setCell hown (fun g hgg => nn g hgg) _
  · exact own_setCell r2.1 (fun g hgg => by have := (h.oM.lt g hgg).1; show g ≠ R; omega) _
  · exact r2.2.symm
  · exact (((h.bel.alloc (by omega) o).grown hg (by simp; omega) (fun k hk => by have := (h.oV.lt k hk).1; omega))).setCell (by show H ≤ R; omega) _

theorem Rw.putM {H R : Nat} {w wr w1 : World} {V M M' : Value} {vs ms : List Nat} {x : Nat} {o : Obj} (h : Rw H R w wr V M vs ms) (hown : w1.ownsRow (R + 1) 3 1 M' (ms.length + [Value.int .i64 (x : Int)].length) (I64 (NI ms) ++ [Value.int .i64 (x : Int)])) (hg : (wr.alloc o).grownBy w1 M.ownBlock) (hat : M'.ownBlock = M.ownBlock ∨ M'.ownBlock = some (wr.alloc o).heap.size) :
    w1.cell? ⟨R, 1, none⟩ = some M ∧ w1.frozen? ⟨R, 1, none⟩ = false ∧ Rw H R w (w1.setCell ⟨R, 1, none⟩ M') V M' vs (ms ++ [x]) := by
  obtain ⟨d0, d1, df, e0, e1, ef⟩ := h.low (fun g hgl => low_block hg (fun k hk => (h.oM.lt k hk).1) h.hs hgl)
  have r2 := app_own h.oV h.ap hg hat
  have s2 := hg.size
  simp at s2
  have hs := h.hs
  have hHR := h.hr
  have hb := h.bel.size
  have nn : ∀ g, M'.ownBlock = some g → g ≠ R := fun g hgg => by have := (hown.lt g hgg).1; omega
  refine ⟨d1, df 1, ?_, World.cell?_setCell_same _ _ _ d1, fun j => by simpa using df j, ?_, ?_, fun j => by simpa using ef j, ?_, ?_, ?_, ?_, by simp; omega, h.hr⟩
  · rw [World.cell?_setCell_other _ _ _ _ (by simp)]
    exact d0
  · rw [World.cell?_setCell_other _ _ _ _ (by simp)]
    exact e0
  · rw [World.cell?_setCell_other _ _ _ _ (by simp)]
    exact e1
  · exact own_setCell r2.1 (fun g hgg => by have := (h.oV.lt g hgg).1; show g ≠ R; omega) _
  · have e : I64 (NI (ms ++ [x])) = I64 (NI ms) ++ [Value.int .i64 (x : Int)] := by simp [I64, NI]
    rw [e, List.length_append]
    exact own_setCell hown (fun g hgg => nn g hgg) _
  · exact r2.2
  · exact (((h.bel.alloc (by omega) o).grown hg (by simp; omega) (fun k hk => by have := (h.oM.lt k hk).1; omega))).setCell (by show H ≤ R; omega) _

theorem rd_one_set (w1 : World) (a : Addr) (v x : Value) (t : TypeId) : Rd (w1.heap.size + 1) ((w1.setCell a v).alloc (.cells #[x] t)) (.slice (some ⟨w1.heap.size, 0, none⟩) 1 1) [x] := by
  have h := Rd.one (w1.setCell a v) x t
  rwa [show (w1.setCell a v).heap.size = w1.heap.size from by simp] at h
/-- The result, written. -/
theorem Rw.done {H R : Nat} {w wr : World} {V M : Value} {vs ms : List Nat} (h : Rw H R w wr V M vs ms) :
    ((wr.setCell ⟨H, 0, none⟩ V).setCell ⟨H, 1, none⟩ M).cell? ⟨H, 0, none⟩ = some V ∧ ((wr.setCell ⟨H, 0, none⟩ V).setCell ⟨H, 1, none⟩ M).cell? ⟨H, 1, none⟩ = some M ∧
      ((wr.setCell ⟨H, 0, none⟩ V).setCell ⟨H, 1, none⟩ M).ownsRow H 27 1 V vs.length (U64 vs) ∧ ((wr.setCell ⟨H, 0, none⟩ V).setCell ⟨H, 1, none⟩ M).ownsRow H 3 1 M ms.length (I64 (NI ms)) ∧ Below H w ((wr.setCell ⟨H, 0, none⟩ V).setCell ⟨H, 1, none⟩ M) := by
  have nV : ∀ g, V.ownBlock = some g → g ≠ H := fun g hg => by have := (h.oV.lt g hg).1; have := h.hr; omega
  have nM : ∀ g, M.ownBlock = some g → g ≠ H := fun g hg => by have := (h.oM.lt g hg).1; have := h.hr; omega
  refine ⟨?_, ?_, ?_, ?_, (h.bel.setCell (Nat.le_refl _) _).setCell (Nat.le_refl _) _⟩
  · rw [World.cell?_setCell_other _ _ _ _ (by simp)]
    exact World.cell?_setCell_same _ _ _ h.r0
  · refine World.cell?_setCell_same _ _ _ (u := .slice none 0 0) ?_
    rw [World.cell?_setCell_other _ _ _ _ (by simp)]
    exact h.r1
  · exact own_base (own_setCell (own_setCell h.oV nV _) nV _) (by have := h.hr; omega)
  · exact own_base (own_setCell (own_setCell h.oM nM _) nM _) (by have := h.hr; omega)

/-- What row makes of raw numbers. -/
structure Made (n : Nat) (vs ms : List Nat) : Prop where
  len : vs.length = n
  big : ∀ x ∈ vs, x < 18446744073709551616
  rises : Sp.Rises ms
  mlt : ∀ x ∈ ms, x < n
  mle : ms.length ≤ n
theorem Made.zero : Made 0 [] [] := ⟨rfl, by simp, fun i j _ hj => by simp at hj, by simp, by simp⟩
theorem Made.val {n : Nat} {vs ms : List Nat} (h : Made n vs ms) {x : Nat} (hx : x < 18446744073709551616) : Made (n + 1) (vs ++ [x]) ms :=
  ⟨by simp [h.len], fun y hy => by rcases List.mem_append.1 hy with h1 | h1; exact h.big y h1; simp at h1; omega, h.rises, fun y hy => by have := h.mlt y hy; omega, by have := h.mle; omega⟩
theorem Made.mark {n : Nat} {vs ms : List Nat} {x : Nat} (h : Made n vs ms) (hx : x < 18446744073709551616) : Made (n + 1) (vs ++ [x]) (ms ++ [n]) := by
  have h0 := h.val hx
  refine ⟨h0.len, h0.big, ?_, ?_, by have := h.mle; simp; omega⟩
  · intro i j hij hj
    simp at hj
    by_cases hjm : j < ms.length
    · have := h.rises i j hij hjm
      rw [List.getElem?_append_left (by omega), List.getElem?_append_left hjm]
      exact this
    · have he : j = ms.length := by omega
      have hi : i < ms.length := by omega
      rw [List.getElem?_append_left hi, he]
      have := h.mlt ms[i] (List.getElem_mem hi)
      simp [hi]
      omega
  · intro y hy
    rcases List.mem_append.1 hy with h1 | h1
    · have := h.mlt y h1; omega
    · simp at h1; omega
theorem Made.fits {n : Nat} {vs ms : List Nat} (h : Made n vs ms) (hn : n ≤ 200) : Fits vs ms := ⟨h.big, by rw [h.len]; exact h.mlt, by rw [h.len]; exact hn, by rw [h.len]; exact h.mle, h.rises⟩

set_option maxHeartbeats 4000000 in
set_option maxRecDepth 20000 in
theorem krow_any (B : Nat) (p : Option Addr) (n c : Nat) (xs : List Nat) (q : Option Addr) (m d : Nat) (ys : List Int) (few : Int) (w : World) (hv : Rd B w (.slice p n c) (U64 xs)) (hm : Rd B w (.slice q m d) (I64 ys)) (hB : B ≤ w.heap.size) (hbig : ∀ x ∈ xs, x < 18446744073709551616) (hn : n ≤ 17592186044000) (hfew : -9223372036854775808 ≤ few ∧ few ≤ 9223372036854775807) :
    Calls Tryd.prog 11 #[.slice p n c, .slice q m d, .int .i64 few] w fun e w' => ∃ V M vs ms, e = .returned (.agg #[V, M]) ∧ w'.ownsRow w.heap.size 27 1 V vs.length (U64 vs) ∧ w'.ownsRow w.heap.size 3 1 M ms.length (I64 (NI ms)) ∧ Ap V M ∧ Made (min n 200) vs ms ∧ Below w.heap.size w w' := by
  obtain ⟨kk, hkk, hp⟩ := kpick_fix few 4 (by omega) (by omega) hfew
  have HP := hide hp
  obtain ⟨hl, _⟩ := hv.len
  obtain ⟨hl2, _⟩ := hm.len
  rw [U64_len] at hl
  rw [I64_len] at hl2
  have HL := hide (And.intro hl hl2)
  have HBG := hide hbig
  have HRD := hide (fun (w' : World) (hb : Below w.heap.size w w') => And.intro (hv.below (hb.mono hB)) (hm.below (hb.mono hB)))
  clear hv hm hl hl2 hp hbig
  have HS : Hid (Rw w.heap.size (w.heap.size + 1) w ((w.alloc (.cells #[.slice none 0 0, .slice none 0 0] 25)).alloc (.cells #[.slice none 0 0, .slice none 0 0] 25)) (.slice none 0 0) (.slice none 0 0) [] []) := by
    obtain ⟨g0, g1⟩ := blk2 w (.cells #[.slice none 0 0, .slice none 0 0] 25) (.cells #[.slice none 0 0, .slice none 0 0] 25)
    refine ⟨?_, ?_, fun j => frozen_of_row _ _ _ _ _ g1, ?_, ?_, fun j => frozen_of_row _ _ _ _ _ g0, World.ownsRow_nil _ _ _ _, World.ownsRow_nil _ _ _ _, Ap.nil _, bel2 w _ _, by simp, by omega⟩
    · rw [cell_of_row _ _ _ _ _ (0, 0) g1]; rfl
    · rw [cell_of_row _ _ _ _ _ (0, 0) g1]; rfl
    · rw [cell_of_row _ _ _ _ _ (0, 0) g0]; rfl
    · rw [cell_of_row _ _ _ _ _ (0, 0) g0]; rfl
  go_enter Tryd.func11, Tryd.ntmps11
  go_wp2
  go_loopw [8] (fun ii wr => ∃ (i : Nat) (V M : Value) (vs ms : List Nat), i ≤ n ∧ i ≤ 200 ∧ ii = .int .i64 (i : Nat) ∧ Rw w.heap.size (w.heap.size + 1) w wr V M vs ms ∧ Made i vs ms) (fun ii _ => n - (intOf ii).toNat)
  case atStart => exact ⟨0, _, _, [], [], Nat.zero_le _, by omega, rfl, unhide HS, Made.zero⟩
  case round =>
    obtain ⟨i, V, M, vs, ms, hi, hi2, rfl, hrw, hmd⟩ := hrel
    clear HS
    have hmle := hmd.mle
    have hvl := hmd.len
    have hroom : vs.length ≤ 10000000000000 := by omega
    have hroomM : ms.length ≤ 10000000000000 := by omega
    clear hvl
    obtain ⟨pV, cV, rfl, _⟩ := own_slice hrw.oV
    obtain ⟨pM, cM, rfl, _⟩ := own_slice hrw.oM
    have c0 := hrw.c0
    have c1 := hrw.c1
    have cf := hrw.fz
    by_cases hlt : i < n ∧ i < 200
    · obtain ⟨hin, hi20⟩ := hlt
      have hil : i < xs.length := by rw [← (unhide HL).1]; exact hin
      obtain ⟨rx, ry⟩ := unhide HRD _ hrw.bel
      obtain ⟨b, o, hpe, _, hc⟩ := rx.at i _ (U64_at xs i hil)
      subst hpe
      have hx : xs[i] < 18446744073709551616 := unhide HBG _ (List.getElem_mem hil)
      have HM := hide hmd
      have HR := hide hrw
      clear hmd hrw rx
      generalize xs[i] = x at *
      by_cases him : i < m
      · have hiy : i < ys.length := by rw [← (unhide HL).2]; exact him
        obtain ⟨b2, o2, hpe2, hb2l, hcy⟩ := ry.at i _ (I64_at ys i hiy)
        subst hpe2
        have HYC : Hid (∀ w', Below w.heap.size w w' → w'.cell? ⟨b2, o2 + i, none⟩ = some (.int .i64 ys[i])) := by
          intro w' hb
          obtain ⟨b3, o3, hpe3, _, hc3⟩ := (unhide HRD w' hb).2.at i _ (I64_at ys i hiy)
          simp only [Option.some.injEq, Addr.mk.injEq] at hpe3
          obtain ⟨rfl, rfl, _⟩ := hpe3
          exact hc3
        clear ry
        generalize ys[i] = z at *
        by_cases hz : z.tmod 2 = 0
        · have hzb : (z.tmod 2 == 0) = true := by simp [hz]
          rcases (show kk = 0 ∨ kk = 1 ∨ (kk ≠ 0 ∧ kk ≠ 1) by omega) with rfl | rfl | ⟨n0, n1⟩
          · have hyb : x % 4 < 18446744073709551616 := by omega
            have HE : Hid (Value.int .u64 ((x : Int) % 4) = Value.int .u64 ((x % 4 : Nat) : Int)) := by unfold Hid; simp
            go_wp2_with (first
              | (go_at_call 15; refine at_same (unhide HP _) ?_)
              | (at_builtin; refine wpList_app _ rfl (.tmp 35) (.tmp 37) 22 rfl (w.heap.size + 1 + 1) 27 (.int .u64 0) 8 Tryd.underlying22 Ty.u64 rfl (.slice pV vs.length cV) _ _ rfl ((unhide HR).oV.alloc _) _ _ rfl ⟨_, Rd.one wr (.int .u64 ((x : Int) % 4)) 27⟩ (one_int _ _) (room1 hroom) (room8b hroom) (by have := (unhide HR).hs; simp; omega) ?_; intro v1 w1 hown1 hg1 hb1; rw [unhide HE] at hown1; obtain ⟨pv1, cv1, rfl, _⟩ := own_slice hown1; obtain ⟨k0, kf, hr1⟩ := (unhide HR).putV hown1 hg1 hb1; simp only [List.length_cons, List.length_nil, Nat.zero_add] at hr1; have HR1 := hide hr1; have k1 := hr1.c1; have kf1 := hr1.fz; have hy1 := unhide HYC _ hr1.bel; clear hown1 hg1 hb1 hr1))
            go_roundw
            case rel => exact ⟨i + 1, _, _, _, _, by omega, by omega, by go_num, unhide HR1, (unhide HM).val hyb⟩
            case measure => simp [intOf]; omega
          · have hyb : x % 50 < 18446744073709551616 := by omega
            have HE : Hid (Value.int .u64 ((x : Int) % 50) = Value.int .u64 ((x % 50 : Nat) : Int)) := by unfold Hid; simp
            go_wp2_with (first
              | (go_at_call 15; refine at_same (unhide HP _) ?_)
              | (at_builtin; refine wpList_app _ rfl (.tmp 35) (.tmp 37) 22 rfl (w.heap.size + 1 + 1) 27 (.int .u64 0) 8 Tryd.underlying22 Ty.u64 rfl (.slice pV vs.length cV) _ _ rfl ((unhide HR).oV.alloc _) _ _ rfl ⟨_, Rd.one wr (.int .u64 ((x : Int) % 50)) 27⟩ (one_int _ _) (room1 hroom) (room8b hroom) (by have := (unhide HR).hs; simp; omega) ?_; intro v1 w1 hown1 hg1 hb1; rw [unhide HE] at hown1; obtain ⟨pv1, cv1, rfl, _⟩ := own_slice hown1; obtain ⟨k0, kf, hr1⟩ := (unhide HR).putV hown1 hg1 hb1; simp only [List.length_cons, List.length_nil, Nat.zero_add] at hr1; have HR1 := hide hr1; have k1 := hr1.c1; have kf1 := hr1.fz; have hy1 := unhide HYC _ hr1.bel; clear hown1 hg1 hb1 hr1))
            go_roundw
            case rel => exact ⟨i + 1, _, _, _, _, by omega, by omega, by go_num, unhide HR1, (unhide HM).val hyb⟩
            case measure => simp [intOf]; omega
          · have g0 : ((kk : Int) == 0) = false := by rw [beq_eq_false_iff_ne]; omega
            have g1 : ((kk : Int) == 1) = false := by rw [beq_eq_false_iff_ne]; omega
            have hyb : x < 18446744073709551616 := by omega
            go_wp2_with (first
              | (go_at_call 15; refine at_same (unhide HP _) ?_)
              | (at_builtin; refine wpList_app _ rfl (.tmp 35) (.tmp 37) 22 rfl (w.heap.size + 1 + 1) 27 (.int .u64 0) 8 Tryd.underlying22 Ty.u64 rfl (.slice pV vs.length cV) _ _ rfl ((unhide HR).oV.alloc _) _ _ rfl ⟨_, Rd.one wr (.int .u64 ((x : Int))) 27⟩ (one_int _ _) (room1 hroom) (room8b hroom) (by have := (unhide HR).hs; simp; omega) ?_; intro v1 w1 hown1 hg1 hb1; obtain ⟨pv1, cv1, rfl, _⟩ := own_slice hown1; obtain ⟨k0, kf, hr1⟩ := (unhide HR).putV hown1 hg1 hb1; simp only [List.length_cons, List.length_nil, Nat.zero_add] at hr1; have HR1 := hide hr1; have k1 := hr1.c1; have kf1 := hr1.fz; have hy1 := unhide HYC _ hr1.bel; clear hown1 hg1 hb1 hr1))
            go_roundw
            case rel => exact ⟨i + 1, _, _, _, _, by omega, by omega, by go_num, unhide HR1, (unhide HM).val hyb⟩
            case measure => simp [intOf]; omega
        · have hzb : (z.tmod 2 == 0) = false := by simp [hz]
          rcases (show kk = 0 ∨ kk = 1 ∨ (kk ≠ 0 ∧ kk ≠ 1) by omega) with rfl | rfl | ⟨n0, n1⟩
          · have hyb : x % 4 < 18446744073709551616 := by omega
            have HE : Hid (Value.int .u64 ((x : Int) % 4) = Value.int .u64 ((x % 4 : Nat) : Int)) := by unfold Hid; simp
            go_wp2_with (first
              | (go_at_call 15; refine at_same (unhide HP _) ?_)
              | (at_builtin; refine wpList_app _ rfl (.tmp 35) (.tmp 37) 22 rfl (w.heap.size + 1 + 1) 27 (.int .u64 0) 8 Tryd.underlying22 Ty.u64 rfl (.slice pV vs.length cV) _ _ rfl ((unhide HR).oV.alloc _) _ _ rfl ⟨_, Rd.one wr (.int .u64 ((x : Int) % 4)) 27⟩ (one_int _ _) (room1 hroom) (room8b hroom) (by have := (unhide HR).hs; simp; omega) ?_; intro v1 w1 hown1 hg1 hb1; rw [unhide HE] at hown1; obtain ⟨pv1, cv1, rfl, _⟩ := own_slice hown1; obtain ⟨k0, kf, hr1⟩ := (unhide HR).putV hown1 hg1 hb1; simp only [List.length_cons, List.length_nil, Nat.zero_add] at hr1; have HR1 := hide hr1; have k1 := hr1.c1; have kf1 := hr1.fz; have hy1 := unhide HYC _ hr1.bel; clear hown1 hg1 hb1 hr1)
              | (at_builtin; refine wpList_app _ rfl (.tmp 53) (.tmp 55) 23 rfl (w.heap.size + 1 + 1) 3 (.int .i64 0) 8 Tryd.underlying23 Ty.int rfl (.slice pM ms.length cM) _ _ rfl ((unhide HR1).oM.alloc _) _ _ rfl ⟨_, rd_one_set w1 ⟨w.heap.size + 1, 0, none⟩ (.slice pv1 (vs.length + 1) cv1) (.int .i64 (i : Int)) 3⟩ (one_int _ _) (room1 hroomM) (room8b hroomM) (by have := (unhide HR1).hs; simp at this ⊢; omega) ?_; intro v2 w2 hown2 hg2 hb2; obtain ⟨pv2, cv2, rfl, _⟩ := own_slice hown2; obtain ⟨j0, jf, hr2⟩ := (unhide HR1).putM hown2 hg2 hb2; have HR2 := hide hr2; clear hown2 hg2 hb2 hr2))
            go_roundw
            case rel => exact ⟨i + 1, _, _, _, _, by omega, by omega, by go_num, unhide HR2, (unhide HM).mark hyb⟩
            case measure => simp [intOf]; omega
          · have hyb : x % 50 < 18446744073709551616 := by omega
            have HE : Hid (Value.int .u64 ((x : Int) % 50) = Value.int .u64 ((x % 50 : Nat) : Int)) := by unfold Hid; simp
            go_wp2_with (first
              | (go_at_call 15; refine at_same (unhide HP _) ?_)
              | (at_builtin; refine wpList_app _ rfl (.tmp 35) (.tmp 37) 22 rfl (w.heap.size + 1 + 1) 27 (.int .u64 0) 8 Tryd.underlying22 Ty.u64 rfl (.slice pV vs.length cV) _ _ rfl ((unhide HR).oV.alloc _) _ _ rfl ⟨_, Rd.one wr (.int .u64 ((x : Int) % 50)) 27⟩ (one_int _ _) (room1 hroom) (room8b hroom) (by have := (unhide HR).hs; simp; omega) ?_; intro v1 w1 hown1 hg1 hb1; rw [unhide HE] at hown1; obtain ⟨pv1, cv1, rfl, _⟩ := own_slice hown1; obtain ⟨k0, kf, hr1⟩ := (unhide HR).putV hown1 hg1 hb1; simp only [List.length_cons, List.length_nil, Nat.zero_add] at hr1; have HR1 := hide hr1; have k1 := hr1.c1; have kf1 := hr1.fz; have hy1 := unhide HYC _ hr1.bel; clear hown1 hg1 hb1 hr1)
              | (at_builtin; refine wpList_app _ rfl (.tmp 53) (.tmp 55) 23 rfl (w.heap.size + 1 + 1) 3 (.int .i64 0) 8 Tryd.underlying23 Ty.int rfl (.slice pM ms.length cM) _ _ rfl ((unhide HR1).oM.alloc _) _ _ rfl ⟨_, rd_one_set w1 ⟨w.heap.size + 1, 0, none⟩ (.slice pv1 (vs.length + 1) cv1) (.int .i64 (i : Int)) 3⟩ (one_int _ _) (room1 hroomM) (room8b hroomM) (by have := (unhide HR1).hs; simp at this ⊢; omega) ?_; intro v2 w2 hown2 hg2 hb2; obtain ⟨pv2, cv2, rfl, _⟩ := own_slice hown2; obtain ⟨j0, jf, hr2⟩ := (unhide HR1).putM hown2 hg2 hb2; have HR2 := hide hr2; clear hown2 hg2 hb2 hr2))
            go_roundw
            case rel => exact ⟨i + 1, _, _, _, _, by omega, by omega, by go_num, unhide HR2, (unhide HM).mark hyb⟩
            case measure => simp [intOf]; omega
          · have g0 : ((kk : Int) == 0) = false := by rw [beq_eq_false_iff_ne]; omega
            have g1 : ((kk : Int) == 1) = false := by rw [beq_eq_false_iff_ne]; omega
            have hyb : x < 18446744073709551616 := by omega
            go_wp2_with (first
              | (go_at_call 15; refine at_same (unhide HP _) ?_)
              | (at_builtin; refine wpList_app _ rfl (.tmp 35) (.tmp 37) 22 rfl (w.heap.size + 1 + 1) 27 (.int .u64 0) 8 Tryd.underlying22 Ty.u64 rfl (.slice pV vs.length cV) _ _ rfl ((unhide HR).oV.alloc _) _ _ rfl ⟨_, Rd.one wr (.int .u64 ((x : Int))) 27⟩ (one_int _ _) (room1 hroom) (room8b hroom) (by have := (unhide HR).hs; simp; omega) ?_; intro v1 w1 hown1 hg1 hb1; obtain ⟨pv1, cv1, rfl, _⟩ := own_slice hown1; obtain ⟨k0, kf, hr1⟩ := (unhide HR).putV hown1 hg1 hb1; simp only [List.length_cons, List.length_nil, Nat.zero_add] at hr1; have HR1 := hide hr1; have k1 := hr1.c1; have kf1 := hr1.fz; have hy1 := unhide HYC _ hr1.bel; clear hown1 hg1 hb1 hr1)
              | (at_builtin; refine wpList_app _ rfl (.tmp 53) (.tmp 55) 23 rfl (w.heap.size + 1 + 1) 3 (.int .i64 0) 8 Tryd.underlying23 Ty.int rfl (.slice pM ms.length cM) _ _ rfl ((unhide HR1).oM.alloc _) _ _ rfl ⟨_, rd_one_set w1 ⟨w.heap.size + 1, 0, none⟩ (.slice pv1 (vs.length + 1) cv1) (.int .i64 (i : Int)) 3⟩ (one_int _ _) (room1 hroomM) (room8b hroomM) (by have := (unhide HR1).hs; simp at this ⊢; omega) ?_; intro v2 w2 hown2 hg2 hb2; obtain ⟨pv2, cv2, rfl, _⟩ := own_slice hown2; obtain ⟨j0, jf, hr2⟩ := (unhide HR1).putM hown2 hg2 hb2; have HR2 := hide hr2; clear hown2 hg2 hb2 hr2))
            go_roundw
            case rel => exact ⟨i + 1, _, _, _, _, by omega, by omega, by go_num, unhide HR2, (unhide HM).mark hyb⟩
            case measure => simp [intOf]; omega
      · clear ry
        rcases (show kk = 0 ∨ kk = 1 ∨ (kk ≠ 0 ∧ kk ≠ 1) by omega) with rfl | rfl | ⟨n0, n1⟩
        · have hyb : x % 4 < 18446744073709551616 := by omega
          have HE : Hid (Value.int .u64 ((x : Int) % 4) = Value.int .u64 ((x % 4 : Nat) : Int)) := by unfold Hid; simp
          go_wp2_with (first
            | (go_at_call 15; refine at_same (unhide HP _) ?_)
            | (at_builtin; refine wpList_app _ rfl (.tmp 35) (.tmp 37) 22 rfl (w.heap.size + 1 + 1) 27 (.int .u64 0) 8 Tryd.underlying22 Ty.u64 rfl (.slice pV vs.length cV) _ _ rfl ((unhide HR).oV.alloc _) _ _ rfl ⟨_, Rd.one wr (.int .u64 ((x : Int) % 4)) 27⟩ (one_int _ _) (room1 hroom) (room8b hroom) (by have := (unhide HR).hs; simp; omega) ?_; intro v1 w1 hown1 hg1 hb1; rw [unhide HE] at hown1; obtain ⟨pv1, cv1, rfl, _⟩ := own_slice hown1; obtain ⟨k0, kf, hr1⟩ := (unhide HR).putV hown1 hg1 hb1; simp only [List.length_cons, List.length_nil, Nat.zero_add] at hr1; have HR1 := hide hr1; have k1 := hr1.c1; have kf1 := hr1.fz; clear hown1 hg1 hb1 hr1))
          go_roundw
          case rel => exact ⟨i + 1, _, _, _, _, by omega, by omega, by go_num, unhide HR1, (unhide HM).val hyb⟩
          case measure => simp [intOf]; omega
        · have hyb : x % 50 < 18446744073709551616 := by omega
          have HE : Hid (Value.int .u64 ((x : Int) % 50) = Value.int .u64 ((x % 50 : Nat) : Int)) := by unfold Hid; simp
          go_wp2_with (first
            | (go_at_call 15; refine at_same (unhide HP _) ?_)
            | (at_builtin; refine wpList_app _ rfl (.tmp 35) (.tmp 37) 22 rfl (w.heap.size + 1 + 1) 27 (.int .u64 0) 8 Tryd.underlying22 Ty.u64 rfl (.slice pV vs.length cV) _ _ rfl ((unhide HR).oV.alloc _) _ _ rfl ⟨_, Rd.one wr (.int .u64 ((x : Int) % 50)) 27⟩ (one_int _ _) (room1 hroom) (room8b hroom) (by have := (unhide HR).hs; simp; omega) ?_; intro v1 w1 hown1 hg1 hb1; rw [unhide HE] at hown1; obtain ⟨pv1, cv1, rfl, _⟩ := own_slice hown1; obtain ⟨k0, kf, hr1⟩ := (unhide HR).putV hown1 hg1 hb1; simp only [List.length_cons, List.length_nil, Nat.zero_add] at hr1; have HR1 := hide hr1; have k1 := hr1.c1; have kf1 := hr1.fz; clear hown1 hg1 hb1 hr1))
          go_roundw
          case rel => exact ⟨i + 1, _, _, _, _, by omega, by omega, by go_num, unhide HR1, (unhide HM).val hyb⟩
          case measure => simp [intOf]; omega
        · have g0 : ((kk : Int) == 0) = false := by rw [beq_eq_false_iff_ne]; omega
          have g1 : ((kk : Int) == 1) = false := by rw [beq_eq_false_iff_ne]; omega
          have hyb : x < 18446744073709551616 := by omega
          go_wp2_with (first
            | (go_at_call 15; refine at_same (unhide HP _) ?_)
            | (at_builtin; refine wpList_app _ rfl (.tmp 35) (.tmp 37) 22 rfl (w.heap.size + 1 + 1) 27 (.int .u64 0) 8 Tryd.underlying22 Ty.u64 rfl (.slice pV vs.length cV) _ _ rfl ((unhide HR).oV.alloc _) _ _ rfl ⟨_, Rd.one wr (.int .u64 ((x : Int))) 27⟩ (one_int _ _) (room1 hroom) (room8b hroom) (by have := (unhide HR).hs; simp; omega) ?_; intro v1 w1 hown1 hg1 hb1; obtain ⟨pv1, cv1, rfl, _⟩ := own_slice hown1; obtain ⟨k0, kf, hr1⟩ := (unhide HR).putV hown1 hg1 hb1; simp only [List.length_cons, List.length_nil, Nat.zero_add] at hr1; have HR1 := hide hr1; have k1 := hr1.c1; have kf1 := hr1.fz; clear hown1 hg1 hb1 hr1))
          go_roundw
          case rel => exact ⟨i + 1, _, _, _, _, by omega, by omega, by go_num, unhide HR1, (unhide HM).val hyb⟩
          case measure => simp [intOf]; omega
    · have HM := hide hmd
      have HR := hide hrw
      have he : i = min n 200 := by omega
      have HX := hide (Rw.done (unhide HR))
      have g0 := (unhide HX).1
      have g1 := (unhide HX).2.1
      have hr0 := (unhide HR).r0
      have hr1 := (unhide HR).r1
      have hrz := (unhide HR).rz
      have HE : Hid (i = min n 200) := he
      clear hmd hrw he
      by_cases h1 : i < n
      · have h2 : ¬ i < 200 := fun h => hlt ⟨h1, h⟩
        clear hlt
        go_wp2
        refine bodyPost_ret (v := .agg #[.slice pV vs.length cV, .slice pM ms.length cM]) (by simp [results, Tryd.results11, go_sem, g0, g1]) rfl ?_
        exact ⟨_, _, vs, ms, rfl, (unhide HX).2.2.1, (unhide HX).2.2.2.1, (unhide HR).ap, by rw [← unhide HE]; exact unhide HM, (unhide HX).2.2.2.2⟩
      · clear hlt
        go_wp2
        refine bodyPost_ret (v := .agg #[.slice pV vs.length cV, .slice pM ms.length cM]) (by simp [results, Tryd.results11, go_sem, g0, g1]) rfl ?_
        exact ⟨_, _, vs, ms, rfl, (unhide HX).2.2.1, (unhide HX).2.2.2.1, (unhide HR).ap, by rw [← unhide HE]; exact unhide HM, (unhide HX).2.2.2.2⟩
end Kp
end Go.Proofs.YtolkjadklbchfaaDoor
