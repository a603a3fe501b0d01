/- The law's built: what Build gives, in one word; what its loops keep. -/
import Derived.Test.YtmefkcbchpjeoaaDoorLwG
open Go Go.RowKit
namespace Go.Proofs.YtmefkcbchpjeoaaDoor
namespace Lw
open Mem Rf Pr

/-- What came of Build: an error, or an index in blocks of its own. -/
def BRes (lo hi : Nat) (w : World) (xp : Value) (ee : Int) (vs : List Nat) (ms : List Int) : Prop :=
  ((ee == 0) = false ∧ xp = .pointer none) ∨ (ee = 0 ∧ ∃ X ns, xp = .pointer (some ⟨X, 0, none⟩) ∧ ms = NI ns ∧ Fits vs ns ∧ Idx lo hi w X vs ns)

theorem BRes.same {lo hi : Nat} {w w' : World} {xp : Value} {ee : Int} {vs : List Nat} {ms : List Int} (h : BRes lo hi w xp ee vs ms) (hs : ∀ k, lo ≤ k → k < hi → w'.heap[k]? = w.heap[k]?) : BRes lo hi w' xp ee vs ms := by
  rcases h with h | ⟨h1, X, ns, h2, h3, h4, h5⟩
  · exact .inl h
  · exact .inr ⟨h1, X, ns, h2, h3, h4, Idx.same h5 hs⟩

theorem fit_cases (n : Nat) (ms : List Int) : (200 < n ∧ Sp.fit n ms = 1) ∨ (n ≤ 200 ∧ Sp.upTo n 0 ms = false ∧ Sp.fit n ms = 2) ∨ (n ≤ 200 ∧ Sp.upTo n 0 ms = true ∧ Sp.fit n ms = 0) := by
  unfold Sp.fit
  by_cases h : 200 < n
  · exact .inl ⟨h, if_pos h⟩
  · cases hu : Sp.upTo n 0 ms
    · exact .inr (.inl ⟨by omega, rfl, by rw [if_neg h]; rfl⟩)
    · exact .inr (.inr ⟨by omega, rfl, by rw [if_neg h]; rfl⟩)

theorem build_v (pv : Option Addr) (n cv : Nat) (vs : List Nat) (pm : Option Addr) (B m cm : Nat) (ms : List Int) (w : World) (hrv : Rd B w (.slice pv n cv) (U64 vs)) (hrm : Rd B w (.slice pm m cm) (I64 ms)) (hB : B ≤ w.heap.size) (hbig : ∀ x ∈ vs, x < 18446744073709551616) (hn : n ≤ 100000000000000) (hm : m ≤ 100000000000000) :
    Calls Tryd.prog 9 #[.slice pv n cv, .slice pm m cm] w fun e w' => ∃ xp, e = .returned (.tuple #[xp, .int .i64 (Sp.fit n ms)]) ∧ Below w.heap.size w w' ∧ BRes w.heap.size w'.heap.size w' xp (Sp.fit n ms) vs ms := by
  obtain ⟨hl, _⟩ := hrv.len
  rw [U64_len] at hl
  rcases fit_cases n ms with ⟨h1, h2⟩ | ⟨h1, h2, h3⟩ | ⟨h1, h2, h3⟩
  · rw [h2]
    refine (build_long pv n cv _ w hn h1).mono ?_
    rintro e w' ⟨rfl, rfl⟩
    exact ⟨_, rfl, Below.refl _ _, .inl ⟨rfl, rfl⟩⟩
  · rw [h3]
    refine (build_bad pv n cv pm B m cm ms w hrm hm h1 h2).mono ?_
    rintro e w' ⟨rfl, rfl⟩
    exact ⟨_, rfl, Below.refl _ _, .inl ⟨rfl, rfl⟩⟩
  · rw [h3]
    obtain ⟨ns, rfl, hx, hlen⟩ := upTo_nat (by omega) (by omega) h2
    have hns : (NI ns).length = ns.length := by simp [NI]
    have hf : Fits vs ns := ⟨hbig, by rw [← hl]; exact hx, by omega, by rw [hns] at hlen; omega⟩
    refine (build_good pv n cv vs pm B m cm ns w hrv hrm hB hf h2).mono ?_
    rintro e w' ⟨X, rfl, hi, hb⟩
    exact ⟨_, rfl, hb, .inr ⟨rfl, X, ns, rfl, rfl, hf, hi⟩⟩

/-- What built holds once Build has answered. -/
structure CSt (w0 w : World) (P0 gv gm : Nat) (ops cv cm : List Value) (lo hi : Nat) (xp : Value) (ee : Int) (vs : List Nat) (ms : List Int) : Prop where
  st : BSt w0 w P0 gv gm ops cv cm
  res : BRes lo hi w xp ee vs ms
  gl : gv < lo ∧ gm < lo
  ll : w0.heap.size ≤ lo
  hh : hi ≤ w.heap.size

theorem CSt.putV {w0 w : World} {P0 gv gm : Nat} {ops cv cm : List Value} {lo hi : Nat} {xp : Value} {ee : Int} {vs : List Nat} {ms : List Int} (h : CSt w0 w P0 gv gm ops cv cm lo hi xp ee vs ms) (j : Nat) (u : Value) : CSt w0 (w.setCell ⟨gv, j, none⟩ u) P0 gv gm ops (cv.set j u) cm lo hi xp ee vs ms :=
  ⟨h.st.putV j u, h.res.same (fun k a _ => Below.heap_setCell _ _ _ _ (by have := h.gl.1; simp only; omega)), h.gl, h.ll, by simpa [World.setCell] using h.hh⟩
theorem CSt.putM {w0 w : World} {P0 gv gm : Nat} {ops cv cm : List Value} {lo hi : Nat} {xp : Value} {ee : Int} {vs : List Nat} {ms : List Int} (h : CSt w0 w P0 gv gm ops cv cm lo hi xp ee vs ms) (j : Nat) (u : Value) : CSt w0 (w.setCell ⟨gm, j, none⟩ u) P0 gv gm ops cv (cm.set j u) lo hi xp ee vs ms :=
  ⟨h.st.putM j u, h.res.same (fun k a _ => Below.heap_setCell _ _ _ _ (by have := h.gl.2; simp only; omega)), h.gl, h.ll, by simpa [World.setCell] using h.hh⟩
theorem CSt.drewN {w0 w : World} {P0 gv gm : Nat} {ops cv cm : List Value} {lo hi : Nat} {xp : Value} {ee : Int} {vs : List Nat} {ms : List Int} (h : CSt w0 w P0 gv gm ops cv cm lo hi xp ee vs ms) (q : Nat) : CSt w0 (w.drewN q) P0 gv gm ops cv cm lo hi xp ee vs ms :=
  ⟨h.st.drewN q, h.res.same (fun _ _ _ => rfl), h.gl, h.ll, h.hh⟩

theorem U64_app_at {vs : List Nat} {t : List Value} {k : Nat} (h : k < vs.length) : (U64 vs ++ t)[k]? = some (.int .u64 (vs[k] : Int)) := by
  rw [List.getElem?_append_left (by rw [U64_len]; exact h), U64_at _ _ h]
theorem I64_app_at {ms : List Int} {t : List Value} {k : Nat} (h : k < ms.length) : (I64 ms ++ t)[k]? = some (.int .i64 ms[k]) := by
  rw [List.getElem?_append_left (by rw [I64_len]; exact h), I64_at _ _ h]

/-- The whole block's first cells read as the list. -/
theorem Blk.rd {w : World} {g : Nat} {xs t : List Value} {e : TypeId} {n cap : Nat} (h : Blk w g (xs ++ t) e) (hn : xs.length = n) (hc : n ≤ cap) : Rd w.heap.size w (.slice (some ⟨g, 0, none⟩) n cap) xs := by
  refine ⟨_, cap, by rw [hn], by omega, .inr ⟨g, 0, rfl, h.lt, ?_⟩⟩
  intro j u hu
  rw [Nat.zero_add]
  refine h.cell j u ?_
  rw [List.getElem?_append_left (List.getElem?_eq_some_iff.1 hu).1]
  exact hu

/-- The item that made is handed. -/
theorem CSt.item {base U : Nat} {W0 w0 w : World} {xv yv bv : Value} {is : List It} {bs : List Bk} {P0 gv gm : Nat} {ops cv cm : List Value} {lo hi : Nat} {X : Nat} {vs ns : List Nat} {V M : Value} (h : WSt base U W0 w0 xv yv bv is bs) (hc : BSt w0 w P0 gv gm ops cv cm) (ll : w0.heap.size ≤ lo) (hh : hi ≤ w.heap.size) (hidx : Idx lo hi w X vs ns) (hf : Fits vs ns)
    (hV : RdM (Mut U xv yv bv) w0 V (U64 vs)) (hM : RdM (Mut U xv yv bv) w0 M (I64 (NI ns))) : ItOk (Mut U xv yv bv) w ⟨X, V, M, vs, ns⟩ := by
  have hul := h.ult
  have hfr : Fr (Mut U xv yv bv) w0 w := Below.fr hc.bel
  refine ⟨⟨lo, hi, hidx, hh, ?_⟩, hf, hV.fr hfr (fun _ _ m => m), hM.fr hfr (fun _ _ m => m)⟩
  intro k a _ hm
  rcases hm with q | q | q | q
  · omega
  · have := (h.ox.lt k q).2; omega
  · have := (h.oy.lt k q).2; omega
  · have := (h.ob.lt k q).2; omega
end Lw
end Go.Proofs.YtmefkcbchpjeoaaDoor
