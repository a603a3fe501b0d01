/- Walks of the law: encoded. -/
import Derived.Test.YtmefkcbchpjeoaaDoorLwE
import Derived.Laws.BytesArg
open Go Go.RowKit
namespace Go.Proofs.YtmefkcbchpjeoaaDoor
namespace Lw
open Mem Rf Pr

theorem refs_at (is : List It) (k : Nat) (h : k < is.length) : (refs is)[k * 2]? = some is[k].V ∧ (refs is)[k * 2 + 1]? = some is[k].M := by
  induction is generalizing k with
  | nil => simp at h
  | cons b l ih =>
    have e : refs (b :: l) = [b.V, b.M] ++ refs l := by simp [refs]
    cases k with
    | zero => rw [e]; simp
    | succ i =>
      have := ih i (by simpa using h)
      rw [e]
      have q : ∀ j, j < 2 → ([b.V, b.M] ++ refs l)[(i + 1) * 2 + j]? = (refs l)[i * 2 + j]? := by
        intro j hj
        rw [List.getElem?_append_right (by simp; omega)]
        congr 1
        simp
        omega
      have q0 := q 0 (by omega)
      simp only [Nat.add_zero] at q0
      rw [q0, q 1 (by omega)]
      simpa using this
theorem ptrs_at (is : List It) (k : Nat) (h : k < is.length) : (ptrs is)[k]? = some (.pointer (some ⟨is[k].X, 0, none⟩)) := by simp [ptrs, h]

theorem own_form2 {w : World} {base : Nat} {e : TypeId} {size : Nat} {v : Value} {n : Nat} {xs : List Value} (h : w.ownsRow base e size v n xs) (hn : 0 < n) :
    ∃ g cap, v = .slice (some ⟨g, 0, none⟩) n cap ∧ n ≤ cap ∧ base ≤ g ∧ g < w.heap.size ∧ (∀ j u, xs[j]? = some u → w.cell? ⟨g, j, none⟩ = some u) := by
  rcases h.2 with ⟨_, h0⟩ | ⟨g, cap, cur, rfl, hbg, hgg, hnc, hcm, hcs, ht⟩
  · omega
  · refine ⟨g, cap, rfl, hnc, hbg, (Array.getElem?_eq_some_iff.1 hgg).1, ?_⟩
    intro j u hu
    have hj : j < n * size := by rw [← h.1]; exact (List.getElem?_eq_some_iff.1 hu).1
    rw [h.cellAt j hj, hu]

theorem encode_len (vs ms : List Nat) : 14 ≤ (Sp.encode vs ms).length := by
  unfold Sp.encode
  rw [List.length_append, Sp.sealed_len]
  have : (Sp.head (Sp.widthOf vs) vs.length ms.length).length = 10 := rfl
  omega
theorem encode_small {vs ms : List Nat} (hf : Fits vs ms) : (Sp.encode vs ms).length ≤ 10000000 := by
  have hl := hf.len
  have hm := hf.mlen
  have s1 := layers_small hf.big (by omega : vs.length ≤ 1000)
  have s2 := brackets_small (by omega : vs.length ≤ 1000)
  have s3 := marks_small (n := vs.length) (ms := ms) (by omega) (by omega)
  unfold Sp.encode
  simp only [List.length_append, Sp.sealed_len, Sp.pack_len]
  have : (Sp.head (Sp.widthOf vs) vs.length ms.length).length = 10 := rfl
  omega

theorem conv_bytes {P : Program} (w : World) (src e dst : TypeId) (g cap : Nat) (xs : List Nat) (hs : P.underlying src = some (.slice e)) (he : P.underlying e = some (.int .u8)) (hd : P.underlying dst = some .string) (hc : ∀ j u, (By xs)[j]? = some u → w.cell? ⟨g, j, none⟩ = some u) :
    (convert src dst (.slice (some ⟨g, 0, none⟩) xs.length cap)).run P w = .ok (.string (strOfNums (xs.map fun (x : Nat) => (x : Int)))) w := by
  refine run_convert_bytes_arg w src e hs he g 0 xs.length cap _ (by simp) ?_ dst hd
  intro i hi
  rw [Nat.zero_add]
  refine hc i _ ?_
  rw [By_at _ _ hi]
  simp [List.getD, hi]

set_option maxHeartbeats 2000000 in
theorem encoded_any (base U : Nat) (W0 w : World) (xv yv bv : Value) (is : List It) (bs : List Bk) (k : Nat) (h : WSt base U W0 w xv yv bv is bs) (hk : k < is.length) (hbs : bs.length ≤ 1300000000000) (hT : Tab W0) (hb0 : 0 < base) :
    Calls Tryd.prog 8 #[.pointer (some ⟨U, 0, none⟩), .int .i64 k] w fun e w' => e = .returned (.bool true) ∧ ∃ bv' bs', WSt base U W0 w' xv yv bv' is bs' ∧ bs'.length = bs.length + 1 := by
  obtain ⟨c0, c1, _, _⟩ := h.cells
  have hul := h.ult
  have hl6 := h.ilen
  obtain ⟨gx, cx, rfl, hcx, _, hgx, hxc⟩ := own_form2 h.ox (by omega)
  obtain ⟨gy, cy, rfl, hcy, _, hgy, hyc⟩ := own_form2 h.oy (by omega)
  have hxk := hxc k _ (ptrs_at is k hk)
  have hyk := hyc _ _ (refs_at is k hk).1
  have hyk2 := hyc _ _ (refs_at is k hk).2
  have hit := h.its is[k] (List.getElem_mem hk)
  obtain ⟨lo, hi, hidx, _, _⟩ := hit.idx
  have HE := hide (encode_any lo hi _ _ _ w hidx hit.fit (hT.below h.bel hb0))
  have HH := hide h
  have HIT := hide hit
  obtain ⟨pv, cv, hV, _⟩ := hit.rv.1.form
  obtain ⟨pm, cm, hM, _⟩ := hit.rm.1.form
  rw [U64_len] at hV
  rw [NI_len] at hM
  rw [hV] at hyk
  rw [hM] at hyk2
  have RV := hide (show Rd w.heap.size w (.slice pv is[k].vs.length cv) (U64 is[k].vs) by rw [← hV]; exact hit.rv.1)
  have RM := hide (show Rd w.heap.size w (.slice pm is[k].ms.length cm) (I64 (NI is[k].ms)) by rw [← hM]; exact hit.rm.1)
  have hfit := hit.fit
  have hel := encode_len is[k].vs is[k].ms
  have hes := encode_small hfit
  have HF := hide hfit
  clear h hit hidx hxc hyc hV hM hfit
  generalize is[k].vs = vs at *
  generalize is[k].ms = ms at *
  generalize is[k].X = X at *
  go_enter Tryd.func8, Tryd.ntmps8
  go_wp2_with fail
  refine (unhide HE).mono ?_
  rintro e w1 ⟨v1, rfl, o1, b1⟩
  have d1 := (b1.cell (p := ⟨U, 1, none⟩) hul).trans c1
  have d2 := (b1.cell (p := ⟨gy, k * 2, none⟩) hgy).trans hyk
  have d3 := (b1.cell (p := ⟨gy, k * 2 + 1, none⟩) hgy).trans hyk2
  have s1 := b1.size
  have Q1 := hide (And.intro o1 b1)
  clear o1 b1 HE c0 c1 hxk hyk hyk2
  go_wp2_with fail
  go_region_held3 (fun w' => w'.cell? ⟨U, 1, none⟩ = some (.slice (some ⟨gy, 0, none⟩) is.length cy) ∧ w'.cell? ⟨gy, k * 2, none⟩ = some (.slice pv vs.length cv) ∧ w'.cell? ⟨gy, k * 2 + 1, none⟩ = some (.slice pm ms.length cm)) (go_keep)
    ((go_at_call 14; (refine (Rf.encode_any pv _ cv vs pm _ cm ms w.heap.size w1.drew (rd_drew ((unhide RV).below (unhide Q1).2)) (rd_drew ((unhide RM).below (unhide Q1).2)) s1 (unhide HF).big (unhide HF).mlt (by have := (unhide HF).len; omega) (by have := (unhide HF).len; have := (unhide HF).mlen; omega)).mono ?_); rintro e w2 ⟨v2, rfl, o2, b2⟩; have b3 : Below w1.heap.size w1 w2 := ⟨b2.os, b2.tape, b2.output, b2.size, b2.block⟩; have t1 := (b3.cell (p := ⟨U, 1, none⟩) (by simp only; omega)).trans d1; have t2 := (b3.cell (p := ⟨gy, k * 2, none⟩) (by simp only; omega)).trans d2; have t3 := (b3.cell (p := ⟨gy, k * 2 + 1, none⟩) (by simp only; omega)).trans d3))
  have oL := own_later (unhide Q1).1 b3
  have bL : Below w.heap.size w w2 := (unhide Q1).2.trans (b3.mono s1)
  rw [By_len] at oL o2
  obtain ⟨g1, e1, rfl, he1, _, _, hc1, _⟩ := own_form oL (by omega)
  obtain ⟨g2, e2, rfl, he2, _, _, hc2, _⟩ := own_form o2 (by omega)
  have cv1 := conv_bytes (P := Tryd.prog) w2 49 5 9 g1 e1 (Sp.encode vs ms) Tryd.underlying49 Tryd.underlying5 Tryd.underlying9 hc1
  have cv2 := conv_bytes (P := Tryd.prog) w2 49 5 9 g2 e2 (Sp.encode vs ms) Tryd.underlying49 Tryd.underlying5 Tryd.underlying9 hc2
  have HL := hide (And.intro oL bL)
  clear oL bL o2 b2 b3 t1 t2 t3 d1 d2 d3 hc1 hc2
  generalize strOfNums ((Sp.encode vs ms).map fun (x : Nat) => (x : Int)) = S at *
  go_wp2_with fail
  refine (keep_any base U W0 w w2 _ _ bv is bs (unhide HH) (unhide HL).2 _ _ _ (unhide HL).1 (by omega) hbs).mono ?_
  rintro e w3 ⟨rfl, bv', bs', hst, hlen⟩
  have HS := hide (And.intro hst hlen)
  clear hst hlen cv1 cv2
  go_wp2
  go_ret
  exact ⟨rfl, bv', bs', unhide HS⟩
end Lw
end Go.Proofs.YtmefkcbchpjeoaaDoor
