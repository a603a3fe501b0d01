/- Walks of the law: built, whole. -/
import Derived.Test.YtmefkcbchpjeoaaDoorLwI
import Derived.Deep.QuietTactic
import Derived.BigQuiet
open Go Go.RowKit
namespace Go.Proofs.YtmefkcbchpjeoaaDoor
namespace Lw
open Mem Rf Pr

def opCells (K A B C D : Int) (u x : Int) (V M S : Value) : List Value := [.int .i64 K, .int .i64 A, .int .i64 B, .int .i64 C, .int .i64 D, .int .u64 u, .int .u64 x, V, M, S]

set_option maxHeartbeats 4000000 in
set_option maxRecDepth 100000 in
theorem built_any (base U : Nat) (W0 w : World) (xv yv bv : Value) (is : List It) (bs : List Bk) (h : WSt base U W0 w xv yv bv is bs) (K A B C D u x : Int) (S : ByteArray)
    (pv : Option Addr) (n cv : Nat) (vs : List Nat) (hrv : RdM (Mut U xv yv bv) w (.slice pv n cv) (U64 vs)) (hbig : ∀ y ∈ vs, y < 18446744073709551616) (hn : n ≤ 17592186044000)
    (pm : Option Addr) (m cm : Nat) (ms : List Int) (hrm : RdM (Mut U xv yv bv) w (.slice pm m cm) (I64 ms)) (hm : m ≤ 17592186044000) :
    Calls Tryd.prog 5 #[.pointer (some ⟨U, 0, none⟩), .agg #[.int .i64 K, .int .i64 A, .int .i64 B, .int .i64 C, .int .i64 D, .int .u64 u, .int .u64 x, .slice pv n cv, .slice pm m cm, .string S]] w fun e w' => e = .returned (.bool true) ∧ ∃ xv' yv' is', WSt base U W0 w' xv' yv' bv is' bs := by
  obtain ⟨hl, hlc⟩ := hrv.1.len
  rw [U64_len] at hl
  obtain ⟨hl2, hlc2⟩ := hrm.1.len
  rw [I64_len] at hl2
  have HH := hide h
  have HRV := hide hrv
  have HRM := hide hrm
  have HL := hide hl
  have HL2 := hide hl2
  obtain ⟨i0, hi0, hz0, hz1, hz2⟩ := info_parts Ty.u64
  have HI := hide (And.intro hi0 (And.intro hz0 (And.intro hz1 hz2)))
  obtain ⟨j0, hj0, hy0, hy1, hy2⟩ := info_parts Ty.int
  have HJ := hide (And.intro hj0 (And.intro hy0 (And.intro hy1 hy2)))
  clear h hrv hrm hl hl2 hi0 hz0 hz1 hz2 hj0 hy0 hy1 hy2
  go_enter Tryd.func5, Tryd.ntmps5
  have RV2 : ∀ W1 W2 : World, (w.alloc (Obj.cells #[.int .i64 K, .int .i64 A, .int .i64 B, .int .i64 C, .int .i64 D, .int .u64 u, .int .u64 x, .slice pv n cv, .slice pm m cm, .string S] 38)).grownBy W1 none → W1.grownBy W2 none → Rd w.heap.size W2 (.slice pv n cv) (U64 vs) := fun W1 W2 g1 g2 => (((unhide HRV).1.alloc (Nat.le_refl _) _).grown g1 (by simp) (by intro k hk; cases hk)).grown g2 (by have := g1.size; simp at this; omega) (by intro k hk; cases hk)
  have HRV2 := hide RV2
  have RM2 : ∀ W1 W2 W3 : World, (w.alloc (Obj.cells #[.int .i64 K, .int .i64 A, .int .i64 B, .int .i64 C, .int .i64 D, .int .u64 u, .int .u64 x, .slice pv n cv, .slice pm m cm, .string S] 38)).grownBy W1 none → W1.grownBy W2 none → W2.grownBy W3 (some (w.heap.size + 1)) → Rd w.heap.size W3 (.slice pm m cm) (I64 ms) := fun W1 W2 W3 g1 g2 g3 => ((((unhide HRM).1.alloc (Nat.le_refl _) _).grown g1 (by simp) (by intro k hk; cases hk)).grown g2 (by have := g1.size; simp at this; omega) (by intro k hk; cases hk)).grown g3 (by have := g1.size; have := g2.size; simp at *; omega) (by intro k hk; simp at hk; omega)
  have HRM2 := hide RM2
  clear RV2 RM2
  go_wp2_with (first
    | (at_make; refine wpList_make_full _ rfl (.tmp 17) (.tmp 17) 35 rfl (w.heap.size + 1) 34 i0 (.int .u64 0) 1 Tryd.underlying35 (unhide HI).1 (unhide HI).2.1 (unhide HI).2.2.1 .i64 .i64 _ _ (n + 2) rfl rfl (by go_num) (by go_num) (by rw [(unhide HI).2.2.2]; omega) (by unfold maxLen; omega) (by simp) ?_; intro w1 ho1 hg1; rw [made_u64, rep2] at ho1; have hB1 := made_blk ho1; rw [show (w.alloc (Obj.cells #[.int .i64 K, .int .i64 A, .int .i64 B, .int .i64 C, .int .i64 D, .int .u64 u, .int .u64 x, .slice pv n cv, .slice pm m cm, .string S] 38)).heap.size = w.heap.size + 1 from by simp] at hB1; have a8 := ((show Blk (w.alloc (Obj.cells #[.int .i64 K, .int .i64 A, .int .i64 B, .int .i64 C, .int .i64 D, .int .u64 u, .int .u64 x, .slice pv n cv, .slice pm m cm, .string S] 38)) w.heap.size [.int .i64 K, .int .i64 A, .int .i64 B, .int .i64 C, .int .i64 D, .int .u64 u, .int .u64 x, .slice pv n cv, .slice pm m cm, .string S] 38 from heap_alloc_new _ _).grown hg1 (by simp)).cell 8 _ rfl; have hs1 := hg1.size; have HG1 := hide (And.intro hg1 hB1); have hl1 := hB1.lt; simp at hs1; clear ho1 hg1 hB1)
    | (at_make; refine wpList_make_full _ rfl (.tmp 22) (.tmp 22) 36 rfl (w.heap.size + 1) 3 j0 (.int .i64 0) 1 Tryd.underlying36 (unhide HJ).1 (unhide HJ).2.1 (unhide HJ).2.2.1 .i64 .i64 _ _ (m + 2) rfl rfl (by go_num) (by go_num) (by rw [(unhide HJ).2.2.2]; omega) (by unfold maxLen; omega) (by omega) ?_; intro w2 ho2 hg2; rw [made_i64, rep2] at ho2; have hB2 := made_blk ho2; have hX2 := ((show Blk (w.alloc (Obj.cells #[.int .i64 K, .int .i64 A, .int .i64 B, .int .i64 C, .int .i64 D, .int .u64 u, .int .u64 x, .slice pv n cv, .slice pm m cm, .string S] 38)) w.heap.size [.int .i64 K, .int .i64 A, .int .i64 B, .int .i64 C, .int .i64 D, .int .u64 u, .int .u64 x, .slice pv n cv, .slice pm m cm, .string S] 38 from heap_alloc_new _ _).grown (unhide HG1).1 (by simp)).grown hg2 (by simp); have b7 := hX2.cell 7 _ rfl; have b8 := hX2.cell 8 _ rfl; have hs2 := hg2.size; have hV2 := (unhide HG1).2.grown hg2 (by simp); have HG2 := hide (And.intro hg2 (And.intro hB2 (And.intro hX2 hV2))); clear ho2 hg2 hB2 hX2 hV2 a8)
    | (refine wpList_copy_in _ rfl (.tmp 24) (.tmp 26) 35 rfl 34 (.int .u64 0) 8 Tryd.underlying35 Ty.u64 (w.heap.size + 1) _ (n + 2) (List.replicate n (.int .u64 0)) [.int .u64 0, .int .u64 0] rfl (by simp) (unhide HG2).2.2.2 pv n cv (U64 vs) rfl ⟨_, unhide HRV2 w1 w2 (unhide HG1).1 (unhide HG2).1⟩ (by simp) (one_U64 _) ?_; intro w3 hB3 hg3; have hX3 := (unhide HG2).2.2.1.grown hg3 (by simp); have d8 := hX3.cell 8 _ rfl; have hs3 := hg3.size; have HG3 := hide (And.intro hg3 (And.intro hB3 (And.intro hX3 ((unhide HG2).2.1.grown hg3 (by simp; omega))))); clear hB3 hg3 hX3 b7 b8)
    | (refine wpList_copy_in _ rfl (.tmp 28) (.tmp 30) 36 rfl 3 (.int .i64 0) 8 Tryd.underlying36 Ty.int w1.heap.size _ (m + 2) (List.replicate m (.int .i64 0)) [.int .i64 0, .int .i64 0] rfl (by simp) (unhide HG3).2.2.2 pm m cm (I64 ms) rfl ⟨_, unhide HRM2 w1 w2 w3 (unhide HG1).1 (unhide HG2).1 (unhide HG3).1⟩ (by simp) (one_I64 _) ?_; intro w4 hB4 hg4; have ST := BSt.start (unhide HG1).1 (unhide HG1).2 (unhide HG2).1 (unhide HG2).2.1 (unhide HG3).1 (unhide HG3).2.1 hg4 hB4; have c7 := ST.box7.1; have e1 := ST.bv.cell n (.int .u64 0) (at_end (by rw [U64_len]; exact (unhide HL).symm)); have f1 := ST.bv.fz n; have ST2 := ST.putV n (.int .u64 77); have c8 := ST2.box7.2; have e2 := ST2.bm.cell m (.int .i64 0) (at_end (by rw [I64_len]; exact (unhide HL2).symm)); have f2 := ST2.bm.fz m; have HST := hide (ST2.putM m (.int .i64 77)); clear ST ST2 hB4 hg4 HG1 HG2 HG3 d8 HRV2 HRM2 HI HJ))
  have hst := unhide HST
  rw [set_end (by rw [U64_len]; exact (unhide HL).symm), set_end (by rw [I64_len]; exact (unhide HL2).symm)] at hst
  generalize hWW : (w4.setCell ⟨w.heap.size + 1, n, none⟩ (.int .u64 77)).setCell ⟨w1.heap.size, m, none⟩ (.int .i64 77) = W at *
  clear hWW HST c7 c8 e1 e2 f1 f2
  generalize hgm : w1.heap.size = gm at *
  clear hgm hs1 hs2 hs3 hl1
  have k7 := hst.box7.1
  have k8 := hst.box7.2
  have hWs := hst.bel.size
  have R1 := hide (Blk.rd (xs := U64 vs) (n := n) (cap := n + 2) hst.bv (by rw [U64_len]; exact (unhide HL).symm) (by omega))
  have R2 := hide (Blk.rd (xs := I64 ms) (n := m) (cap := m + 2) hst.bm (by rw [I64_len]; exact (unhide HL2).symm) (by omega))
  have lv := hst.bv.lt
  have lm := hst.bm.lt
  have l0 := hst.box.lt
  have HST := hide hst
  clear hst
  generalize hN2 : n + 2 = N2 at *
  generalize hM2 : m + 2 = M2 at *
  have bN1 : (0 : Int) ≤ (n : Int) := by omega
  have bN2 : (n : Int) ≤ (N2 : Int) := by omega
  have bN3 : (n : Int) + 1 < (N2 : Int) := by omega
  have bM1 : (0 : Int) ≤ (m : Int) := by omega
  have bM2 : (m : Int) ≤ (M2 : Int) := by omega
  have bM3 : (m : Int) + 1 < (M2 : Int) := by omega
  clear hN2 hM2
  go_region_held3 (fun w' => w'.cell? ⟨w.heap.size, 7, none⟩ = some (.slice pv n cv) ∧ w'.cell? ⟨w.heap.size, 8, none⟩ = some (.slice pm m cm)) (go_keep)
    ((go_at_call 9; (refine (build_v (some ⟨w.heap.size + 1, 0, none⟩) n N2 vs (some ⟨gm, 0, none⟩) W.heap.size m M2 ms W.drew (rd_drew (unhide R1)) (rd_drew (unhide R2)) (Nat.le_refl _) hbig (by omega) (by omega)).mono ?_); rintro e w5 ⟨xp, rfl, b5, res⟩; have b6 : Below W.heap.size W w5 := ⟨b5.os, b5.tape, b5.output, b5.size, b5.block⟩; have t1 := (b6.cell (p := ⟨w.heap.size, 7, none⟩) l0).trans k7; have t2 := (b6.cell (p := ⟨w.heap.size, 8, none⟩) l0).trans k8))
  have C5 : CSt w w5 w.heap.size (w.heap.size + 1) gm [.int .i64 K, .int .i64 A, .int .i64 B, .int .i64 C, .int .i64 D, .int .u64 u, .int .u64 x, .slice pv n cv, .slice pm m cm, .string S] (U64 vs ++ [.int .u64 77, .int .u64 0]) (I64 ms ++ [.int .i64 77, .int .i64 0]) W.heap.size w5.heap.size xp (Sp.fit n ms) vs ms :=
    ⟨(unhide HST).below b6, res, ⟨lv, lm⟩, hWs, Nat.le_refl _⟩
  have q1 := C5.st.bv.cell n (.int .u64 77) (at_end (by rw [U64_len]; exact (unhide HL).symm))
  have q2 := C5.st.bv.cell (n + 1) (.int .u64 0) (at_end2 (by rw [U64_len]; exact (unhide HL).symm))
  have q3 := C5.st.bm.cell m (.int .i64 77) (at_end (by rw [I64_len]; exact (unhide HL2).symm))
  have q4 := C5.st.bm.cell (m + 1) (.int .i64 0) (at_end2 (by rw [I64_len]; exact (unhide HL2).symm))
  have HC5 := hide C5
  clear C5 b5 b6 res k7 k8 HST R1 R2
  generalize w5.heap.size = hi at *
  generalize W.heap.size = lo at *
  generalize hfe : Sp.fit n ms = ee at *
  have HFE := hide hfe
  clear hfe
  go_wp2
  go_loopw [9, 10] (fun ok ii wr => ∃ (k : Nat) (cvk : List Value), k ≤ n ∧ ii = .int .i64 k ∧ ok = .bool true ∧ CSt w wr w.heap.size (w.heap.size + 1) gm [.int .i64 K, .int .i64 A, .int .i64 B, .int .i64 C, .int .i64 D, .int .u64 u, .int .u64 x, .slice pv n cv, .slice pm m cm, .string S] cvk (I64 ms ++ [.int .i64 77, .int .i64 0]) lo hi xp ee vs ms ∧ ∀ j, k ≤ j → (h : j < vs.length) → cvk[j]? = some (.int .u64 (vs[j] : Int))) (fun _ ii _ => n - (intOf ii).toNat)
  case atStart => exact ⟨0, _, Nat.zero_le _, rfl, rfl, unhide HC5, fun j _ h => U64_app_at h⟩
  case round =>
    obtain ⟨k, cvk, hk, rfl, rfl, hst, hcv⟩ := hrel
    have g7 := hst.st.box7.1
    by_cases hlt : k < n
    · have hlt' : k < vs.length := by rw [← unhide HL]; exact hlt
      have hck := hst.st.bv.cell k _ (hcv k (Nat.le_refl _) hlt')
      have hfk := hst.st.bv.fz k
      obtain ⟨b, o, hpe, hb, hcs⟩ := ((unhide HRV).1.below hst.st.bel).at k _ (U64_at vs k hlt')
      subst hpe
      have HCV := hide hcv
      have HST := hide hst
      clear hst hcv HC5 q1 q2 q3 q4 t1 t2
      generalize vs[k] = y at *
      go_wp2_with fail
      go_quiet (fail)
      go_wp2
      go_roundw
      case rel =>
        refine ⟨k + 1, _, by omega, by go_num, rfl, ((unhide HST).drewN nq).putV k _, ?_⟩
        intro j hj hjl
        rw [List.getElem?_set_ne (by omega)]
        exact unhide HCV j (by omega) hjl
      case measure => simp [intOf]; omega
    · have HST := hide hst
      clear hst hcv HC5 q1 q2 q3 q4 t1 t2
      go_wp2_with fail
      have g8 := (unhide HST).st.box7.2
      go_loopw [9, 11] (fun ok ii wr => ∃ (j : Nat) (cmk : List Value), j ≤ m ∧ ii = .int .i64 j ∧ ok = .bool true ∧ CSt w wr w.heap.size (w.heap.size + 1) gm [.int .i64 K, .int .i64 A, .int .i64 B, .int .i64 C, .int .i64 D, .int .u64 u, .int .u64 x, .slice pv n cv, .slice pm m cm, .string S] cvk cmk lo hi xp ee vs ms ∧ ∀ i, j ≤ i → (h : i < ms.length) → cmk[i]? = some (.int .i64 ms[i])) (fun _ ii _ => m - (intOf ii).toNat)
      case atStart => exact ⟨0, _, Nat.zero_le _, rfl, rfl, unhide HST, fun j _ h => I64_app_at h⟩
      case round =>
        obtain ⟨j, cmk, hj, rfl, rfl, hst, hcm⟩ := hrel
        have g7 := hst.st.box7.1
        have g8 := hst.st.box7.2
        clear HST
        by_cases hlt2 : j < m
        · have hlt' : j < ms.length := by rw [← unhide HL2]; exact hlt2
          have hck := hst.st.bm.cell j _ (hcm j (Nat.le_refl _) hlt')
          have hfk := hst.st.bm.fz j
          obtain ⟨b, o, hpe, hb, hcs⟩ := ((unhide HRM).1.below hst.st.bel).at j _ (I64_at ms j hlt')
          subst hpe
          have HCM := hide hcm
          have HST := hide hst
          clear hst hcm g7
          generalize ms[j] = y at *
          go_wp2_with fail
          go_quiet (fail)
          go_wp2
          go_roundw
          case rel =>
            refine ⟨j + 1, _, by omega, by go_num, rfl, ((unhide HST).drewN nq).putM j _, ?_⟩
            intro i hi hil
            rw [List.getElem?_set_ne (by omega)]
            exact unhide HCM i (by omega) hil
          case measure => simp [intOf]; omega
        · have HFT := hide (Rf.fit_any pv n cv pm _ m cm ms wr ((unhide HRM).1.below hst.st.bel) (by omega) (by omega))
          have HST := hide hst
          clear hst hcm
          go_wp2_with fail
          refine (unhide HFT).mono ?_
          rintro e w6 ⟨rfl, q, rfl⟩
          rw [unhide HFE]
          have g9 := ((unhide HST).drewN q).st.box7.1
          have g10 := ((unhide HST).drewN q).st.box7.2
          have hcs := (unhide HST).drewN q
          have HW6 := hide ((unhide HH).below hcs.st.bel)
          have HCS := hide hcs
          rcases hcs.res with ⟨hee, rfl⟩ | ⟨hee, X, ns, rfl, hms, hfit, hidx⟩
          · clear hcs HFT HST HFE g7 g8
            go_wp2_with fail
            refine at_same (made_err U _ _ ee _ hee) ?_
            go_wp2
            go_ret
            exact ⟨rfl, xv, yv, is, unhide HW6⟩
          · subst hee
            have hit := CSt.item (unhide HH) hcs.st hcs.ll hcs.hh hidx hfit (unhide HRV) (by rw [← hms]; exact unhide HRM)
            have HMD := hide (made_ok base U W0 _ xv yv bv is bs _ (unhide HW6) hit)
            clear hcs HFT HST HFE g7 g8 hit hidx hfit hms
            go_wp2_with fail
            refine (unhide HMD).mono ?_
            rintro e w7 ⟨rfl, xv', yv', is', hfin⟩
            have HFIN := hide hfin
            clear hfin
            go_wp2
            go_ret
            exact ⟨rfl, xv', yv', is', unhide HFIN⟩
end Lw
end Go.Proofs.YtmefkcbchpjeoaaDoor
