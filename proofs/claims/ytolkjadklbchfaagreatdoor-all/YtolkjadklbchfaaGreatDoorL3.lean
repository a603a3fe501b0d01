import Derived.Test.YtolkjadklbchfaaGreatDoorL2
import Derived.Laws.CopyOwn
import Derived.Deep.QuietTactic
import Derived.BigQuiet
/- Walks of the law: built. -/
open Go Go.RowKit
namespace Go.Proofs.YtolkjadklbchfaaGreatDoor
namespace Lw
open Mem Rf Pr

def Blk (w : World) (g : Nat) (cs : List Value) (t : TypeId) : Prop := w.heap[g]? = some (.cells cs.toArray t (0, 0))

theorem made_blk {w : World} {base : Nat} {e : TypeId} {g n : Nat} {xs : List Value} (h : w.ownsRow base e 1 (.slice (some ⟨g, 0, none⟩) n n) n xs) : Blk w g xs e := by
  rcases h.2 with ⟨h', _⟩ | ⟨g', cap', cur, h', _, hg, _, _, hcs, ht⟩
  · simp at h'
  · simp only [Value.slice.injEq, Option.some.injEq, Addr.mk.injEq, and_true, true_and] at h'
    obtain ⟨rfl, rfl⟩ := h'
    unfold Blk
    rw [hg, ← ht, List.take_of_length_le (by simp at hcs; simp [hcs])]

theorem Blk.cell {w : World} {g : Nat} {cs : List Value} {t : TypeId} (h : Blk w g cs t) (j : Nat) (u : Value) (hu : cs[j]? = some u) : w.cell? ⟨g, j, none⟩ = some u := by
  rw [cell_of_row _ _ _ _ _ (0, 0) h]
  simpa using hu
theorem Blk.fz {w : World} {g : Nat} {cs : List Value} {t : TypeId} (h : Blk w g cs t) (j : Nat) : w.frozen? ⟨g, j, none⟩ = false := frozen_of_row _ _ _ _ _ h
theorem Blk.lt {w : World} {g : Nat} {cs : List Value} {t : TypeId} (h : Blk w g cs t) : g < w.heap.size := (Array.getElem?_eq_some_iff.1 h).1
theorem Blk.grown {w w' : World} {g : Nat} {cs : List Value} {t : TypeId} {row : Option Nat} (h : Blk w g cs t) (hg : w.grownBy w' row) (hne : row ≠ some g) : Blk w' g cs t := by
  unfold Blk
  rw [hg.block g h.lt (fun e => hne e.symm)]
  exact h
theorem Blk.below {w w' : World} {B g : Nat} {cs : List Value} {t : TypeId} (h : Blk w g cs t) (hb : Below B w w') (hlt : g < B) : Blk w' g cs t := by
  unfold Blk
  rw [hb.block g hlt]
  exact h
theorem Blk.put {w : World} {g : Nat} {cs : List Value} {t : TypeId} (h : Blk w g cs t) (j : Nat) (u : Value) : Blk (w.setCell ⟨g, j, none⟩ u) g (cs.set j u) t := by
  unfold Blk
  rw [heap_setCell_same w g j _ _ u h]
  congr 2
  apply Array.ext'
  simp
theorem Blk.other {w : World} {g g' : Nat} {cs : List Value} {t : TypeId} (h : Blk w g cs t) (hne : g ≠ g') (j : Nat) (u : Value) : Blk (w.setCell ⟨g', j, none⟩ u) g cs t := by
  unfold Blk
  rw [Below.heap_setCell _ _ _ _ hne]
  exact h

/-- copy(d, s), d a whole block, s whatever reads, no longer than d. -/
theorem wpList_copy_in {P : Program} (w : World) {ops : Array Oper} {rest : List Oper} {o : Oper} {a : Act} {Q : Exit → Act → World → Prop} (hgd : o.guard = none) (d s : Operand) (dT : TypeId)
    (ho : o.op = .call { callee := .builtin .copy, args := #[d, s], argTypes := #[dT, dT] }) (elem : TypeId) (z : Value) (bytes : Nat) (hu : P.underlying dT = some (.slice elem)) (hinfo : (P.info? elem).map (fun i => (i.zero, i.size, i.bytes)) = some (some z, 1, bytes))
    (g dLen dCap : Nat) (A B : List Value) (hd : a.eval d = .slice (some ⟨g, 0, none⟩) dLen dCap) (hdl : dLen = A.length + B.length) (hg : Blk w g (A ++ B) elem)
    (sp : Option Addr) (n sCap : Nat) (ys : List Value) (hs : a.eval s = .slice sp n sCap) (hr : ∃ B', Rd B' w (.slice sp n sCap) ys) (hlen : A.length = n) (h1 : ∀ v ∈ ys, v.oneCell' = true)
    (h : ∀ w', Blk w' g (ys ++ B) elem → w.grownBy w' (some g) → wpList P ops Q rest (a.put o.dst (goInt n)) w') : wpList P ops Q (o :: rest) a w := by
  subst hdl
  obtain ⟨i, hi, _, hsize, _⟩ := info_parts hinfo
  obtain ⟨B', hr⟩ := hr
  have hsz : (P.info? elem).map (·.size) = some 1 := by rw [hi]; simp [hsize]
  obtain ⟨hl, _⟩ := hr.len
  by_cases h0 : n = 0
  · subst h0
    have hys : ys = [] := List.eq_nil_of_length_eq_zero hl.symm
    have hA : A = [] := List.eq_nil_of_length_eq_zero hlen
    subst hys
    subst hA
    refine wpList_copy_nothing hgd d s dT dT ho elem hu hsz _ _ _ _ _ _ hd hs (by simp) ?_
    exact h w (by simpa using hg) (World.grownBy.refl _ _)
  · obtain ⟨b, of, rfl, _, _⟩ := hr.at 0 (ys[0]'(by omega)) (by simp)
    have hc : ∀ j v, ys[j]? = some v → w.cell? ((⟨b, of, none⟩ : Addr).add j) = some v := by
      intro j v hv
      obtain ⟨b', of', he, _, hcc⟩ := hr.at j v hv
      simp only [Option.some.injEq, Addr.mk.injEq] at he
      obtain ⟨rfl, rfl, _⟩ := he
      rw [Addr.add_lit]
      exact hcc
    refine wpList_copy_own hgd d s dT dT ho elem hu hsz g 0 _ dCap ⟨b, of, none⟩ n sCap hd hs (A ++ B).toArray elem hg ys (by rw [← hl, hlen]; simp) hc (by simp; omega) h1 ?_
    rw [show ys.length = n from hl.symm]
    refine h _ ?_ ?_
    · unfold Blk
      rw [setRow_heap w g _ _ elem _ hg]
      simp only [List.take_zero, List.nil_append, Nat.zero_add]
      rw [show List.drop n (A ++ B) = B from by rw [← hlen]; simp]
    · exact ⟨rfl, rfl, rfl, by simp [World.setRow], fun k _ hk => setRow_other w g k _ (fun e => hk (by rw [e]))⟩

theorem made_u64 (k : Nat) : (madeCells (Value.int .u64 0).cells (k * 1)).toList = List.replicate k (Value.int .u64 0) := by
  show (madeCells #[Value.int .u64 0] (k * 1)).toList = _
  rw [toList_madeCells_one, Nat.mul_one]
theorem made_i64 (k : Nat) : (madeCells (Value.int .i64 0).cells (k * 1)).toList = List.replicate k (Value.int .i64 0) := by
  show (madeCells #[Value.int .i64 0] (k * 1)).toList = _
  rw [toList_madeCells_one, Nat.mul_one]
theorem rep2 (n : Nat) (z : Value) : List.replicate (n + 2) z = List.replicate n z ++ [z, z] := by
  rw [show n + 2 = n + 1 + 1 from rfl, List.replicate_succ', List.replicate_succ', List.append_assoc]
  rfl

/-- The memory of built: the step's box, the two lists. -/
structure BSt (w0 w : World) (P0 gv gm : Nat) (ops : List Value) (cv cm : List Value) : Prop where
  box : Blk w P0 ops 38
  bv : Blk w gv cv 34
  bm : Blk w gm cm 3
  l0 : w0.heap.size ≤ P0
  lv : w0.heap.size ≤ gv
  lm : w0.heap.size ≤ gm
  n1 : P0 ≠ gv
  n2 : P0 ≠ gm
  n3 : gv ≠ gm
  bel : Below w0.heap.size w0 w

theorem BSt.box7 {w0 w : World} {P0 gv gm : Nat} {K A B C D u x : Value} {V M S : Value} {cv cm : List Value} (h : BSt w0 w P0 gv gm [K, A, B, C, D, u, x, V, M, S] cv cm) : w.cell? ⟨P0, 7, none⟩ = some V ∧ w.cell? ⟨P0, 8, none⟩ = some M := ⟨h.box.cell 7 _ rfl, h.box.cell 8 _ rfl⟩
theorem BSt.putV {w0 w : World} {P0 gv gm : Nat} {ops cv cm : List Value} (h : BSt w0 w P0 gv gm ops cv cm) (j : Nat) (u : Value) : BSt w0 (w.setCell ⟨gv, j, none⟩ u) P0 gv gm ops (cv.set j u) cm :=
  ⟨h.box.other h.n1 j u, h.bv.put j u, h.bm.other (Ne.symm h.n3) j u, h.l0, h.lv, h.lm, h.n1, h.n2, h.n3, h.bel.setCell h.lv _⟩
theorem BSt.putM {w0 w : World} {P0 gv gm : Nat} {ops cv cm : List Value} (h : BSt w0 w P0 gv gm ops cv cm) (j : Nat) (u : Value) : BSt w0 (w.setCell ⟨gm, j, none⟩ u) P0 gv gm ops cv (cm.set j u) :=
  ⟨h.box.other h.n2 j u, h.bv.other h.n3 j u, h.bm.put j u, h.l0, h.lv, h.lm, h.n1, h.n2, h.n3, h.bel.setCell h.lm _⟩
theorem BSt.below {w0 w w' : World} {P0 gv gm : Nat} {ops cv cm : List Value} (h : BSt w0 w P0 gv gm ops cv cm) (hb : Below w.heap.size w w') : BSt w0 w' P0 gv gm ops cv cm :=
  ⟨h.box.below hb h.box.lt, h.bv.below hb h.bv.lt, h.bm.below hb h.bm.lt, h.l0, h.lv, h.lm, h.n1, h.n2, h.n3, h.bel.trans (hb.mono h.bel.size)⟩
theorem BSt.drewN {w0 w : World} {P0 gv gm : Nat} {ops cv cm : List Value} (h : BSt w0 w P0 gv gm ops cv cm) (q : Nat) : BSt w0 (w.drewN q) P0 gv gm ops cv cm :=
  ⟨h.box, h.bv, h.bm, h.l0, h.lv, h.lm, h.n1, h.n2, h.n3, ⟨h.bel.os, h.bel.tape, h.bel.output, h.bel.size, h.bel.block⟩⟩

theorem at_end {xs : List Value} {y z : Value} {n : Nat} (h : xs.length = n) : (xs ++ [y, z])[n]? = some y := by
  subst h
  simp
theorem at_end2 {xs : List Value} {y z : Value} {n : Nat} (h : xs.length = n) : (xs ++ [y, z])[n + 1]? = some z := by
  subst h
  simp
theorem set_end {xs : List Value} {y z u : Value} {n : Nat} (h : xs.length = n) : (xs ++ [y, z]).set n u = xs ++ [u, z] := by
  subst h
  simp

/-- The two lists are made, and filled. -/
theorem BSt.start {w w1 w2 w3 w4 : World} {ops ys zs zv zm : List Value} (hg1 : (w.alloc (.cells ops.toArray 38)).grownBy w1 none) (h1 : Blk w1 (w.heap.size + 1) (zv ++ [.int .u64 0, .int .u64 0]) 34)
    (hg2 : w1.grownBy w2 none) (_h2 : Blk w2 w1.heap.size (zm ++ [.int .i64 0, .int .i64 0]) 3)
    (hg3 : w2.grownBy w3 (some (w.heap.size + 1))) (h3 : Blk w3 (w.heap.size + 1) (ys ++ [.int .u64 0, .int .u64 0]) 34)
    (hg4 : w3.grownBy w4 (some w1.heap.size)) (h4 : Blk w4 w1.heap.size (zs ++ [.int .i64 0, .int .i64 0]) 3) :
    BSt w w4 w.heap.size (w.heap.size + 1) w1.heap.size ops (ys ++ [.int .u64 0, .int .u64 0]) (zs ++ [.int .i64 0, .int .i64 0]) := by
  have s1 := hg1.size
  have s2 := hg2.size
  have s3 := hg3.size
  have l1 := h1.lt
  simp at s1
  have b0 : Blk (w.alloc (.cells ops.toArray 38)) w.heap.size ops 38 := heap_alloc_new _ _
  refine ⟨(((b0.grown hg1 (by simp)).grown hg2 (by simp)).grown hg3 (by simp)).grown hg4 (by simp; omega), h3.grown hg4 (by simp; omega), h4, Nat.le_refl _, by omega, by omega, by omega, by omega, by omega, ?_⟩
  have q1 : Below w.heap.size w w1 := ((Below.refl _ _).alloc (Nat.le_refl _) _).grown hg1 (by simp) (by intro k hk; cases hk)
  have q2 := q1.grown hg2 q1.size (by intro k hk; cases hk)
  have q3 := q2.grown hg3 q2.size (by intro k hk; simp at hk; omega)
  exact q3.grown hg4 q3.size (by intro k hk; simp at hk; omega)
end Lw
end Go.Proofs.YtolkjadklbchfaaGreatDoor
/- The law's built: what Build gives, in one word; what its loops keep. -/
open Go Go.RowKit
namespace Go.Proofs.YtolkjadklbchfaaGreatDoor
namespace Lw
open Mem Rf Pr

/-- What came of Build: an error, or an index in blocks of its own. -/
def BRes (lo hi : Nat) (w : World) (xp : Value) (ee : Int) (vs : List Nat) (ms : List Int) : Prop :=
  ((ee == 0) = false ∧ xp = .pointer none) ∨ (ee = 0 ∧ ∃ X ns, xp = .pointer (some ⟨X, 0, none⟩) ∧ ms = NI ns ∧ Fits vs ns ∧ Idx lo hi w X vs ns)

theorem BRes.same {lo hi : Nat} {w w' : World} {xp : Value} {ee : Int} {vs : List Nat} {ms : List Int} (h : BRes lo hi w xp ee vs ms) (hs : ∀ k, lo ≤ k → k < hi → w'.heap[k]? = w.heap[k]?) : BRes lo hi w' xp ee vs ms := by
  rcases h with h | ⟨h1, X, ns, h2, h3, h4, h5⟩
  · exact .inl h
  · exact .inr ⟨h1, X, ns, h2, h3, h4, Idx.same h5 hs⟩

theorem fit_cases (n : Nat) (ms : List Int) : (200 < n ∧ Sp.fit n ms = 1) ∨ (n ≤ 200 ∧ Sp.upTo n 0 ms = false ∧ Sp.fit n ms = 2) ∨ (n ≤ 200 ∧ Sp.upTo n 0 ms = true ∧ Sp.fit n ms = 0) := by
  unfold Sp.fit
  by_cases h : 200 < n
  · exact .inl ⟨h, if_pos h⟩
  · cases hu : Sp.upTo n 0 ms
    · exact .inr (.inl ⟨by omega, rfl, by rw [if_neg h]; rfl⟩)
    · exact .inr (.inr ⟨by omega, rfl, by rw [if_neg h]; rfl⟩)

theorem build_v (pv : Option Addr) (n cv : Nat) (vs : List Nat) (pm : Option Addr) (B m cm : Nat) (ms : List Int) (w : World) (hrv : Rd B w (.slice pv n cv) (U64 vs)) (hrm : Rd B w (.slice pm m cm) (I64 ms)) (hB : B ≤ w.heap.size) (hbig : ∀ x ∈ vs, x < 18446744073709551616) (hn : n ≤ 100000000000000) (hm : m ≤ 100000000000000) :
    Calls Tryz.prog 11 #[.slice pv n cv, .slice pm m cm] w fun e w' => ∃ xp, e = .returned (.tuple #[xp, .int .i64 (Sp.fit n ms)]) ∧ Below w.heap.size w w' ∧ BRes w.heap.size w'.heap.size w' xp (Sp.fit n ms) vs ms := by
  obtain ⟨hl, _⟩ := hrv.len
  rw [U64_len] at hl
  rcases fit_cases n ms with ⟨h1, h2⟩ | ⟨h1, h2, h3⟩ | ⟨h1, h2, h3⟩
  · rw [h2]
    refine (build_long pv n cv _ w hn h1).mono ?_
    rintro e w' ⟨rfl, rfl⟩
    exact ⟨_, rfl, Below.refl _ _, .inl ⟨rfl, rfl⟩⟩
  · rw [h3]
    refine (build_bad pv n cv pm B m cm ms w hrm hm h1 h2).mono ?_
    rintro e w' ⟨rfl, rfl⟩
    exact ⟨_, rfl, Below.refl _ _, .inl ⟨rfl, rfl⟩⟩
  · rw [h3]
    obtain ⟨ns, rfl, hx, hlen, hrise, _⟩ := upTo_nat (by omega) (by omega) h2
    have hns : (NI ns).length = ns.length := by simp [NI]
    have hf : Fits vs ns := ⟨hbig, by rw [← hl]; exact hx, by omega, by rw [hns] at hlen; omega, hrise⟩
    refine (build_good pv n cv vs pm B m cm ns w hrv hrm hB hf h2).mono ?_
    rintro e w' ⟨X, rfl, hi, hb⟩
    exact ⟨_, rfl, hb, .inr ⟨rfl, X, ns, rfl, rfl, hf, hi⟩⟩

/-- What built holds once Build has answered. -/
structure CSt (w0 w : World) (P0 gv gm : Nat) (ops cv cm : List Value) (lo hi : Nat) (xp : Value) (ee : Int) (vs : List Nat) (ms : List Int) : Prop where
  st : BSt w0 w P0 gv gm ops cv cm
  res : BRes lo hi w xp ee vs ms
  gl : gv < lo ∧ gm < lo
  ll : w0.heap.size ≤ lo
  hh : hi ≤ w.heap.size

theorem CSt.putV {w0 w : World} {P0 gv gm : Nat} {ops cv cm : List Value} {lo hi : Nat} {xp : Value} {ee : Int} {vs : List Nat} {ms : List Int} (h : CSt w0 w P0 gv gm ops cv cm lo hi xp ee vs ms) (j : Nat) (u : Value) : CSt w0 (w.setCell ⟨gv, j, none⟩ u) P0 gv gm ops (cv.set j u) cm lo hi xp ee vs ms :=
  ⟨h.st.putV j u, h.res.same (fun k a _ => Below.heap_setCell _ _ _ _ (by have := h.gl.1; simp only; omega)), h.gl, h.ll, by simpa [World.setCell] using h.hh⟩
theorem CSt.putM {w0 w : World} {P0 gv gm : Nat} {ops cv cm : List Value} {lo hi : Nat} {xp : Value} {ee : Int} {vs : List Nat} {ms : List Int} (h : CSt w0 w P0 gv gm ops cv cm lo hi xp ee vs ms) (j : Nat) (u : Value) : CSt w0 (w.setCell ⟨gm, j, none⟩ u) P0 gv gm ops cv (cm.set j u) lo hi xp ee vs ms :=
  ⟨h.st.putM j u, h.res.same (fun k a _ => Below.heap_setCell _ _ _ _ (by have := h.gl.2; simp only; omega)), h.gl, h.ll, by simpa [World.setCell] using h.hh⟩
theorem CSt.drewN {w0 w : World} {P0 gv gm : Nat} {ops cv cm : List Value} {lo hi : Nat} {xp : Value} {ee : Int} {vs : List Nat} {ms : List Int} (h : CSt w0 w P0 gv gm ops cv cm lo hi xp ee vs ms) (q : Nat) : CSt w0 (w.drewN q) P0 gv gm ops cv cm lo hi xp ee vs ms :=
  ⟨h.st.drewN q, h.res.same (fun _ _ _ => rfl), h.gl, h.ll, h.hh⟩

theorem U64_app_at {vs : List Nat} {t : List Value} {k : Nat} (h : k < vs.length) : (U64 vs ++ t)[k]? = some (.int .u64 (vs[k] : Int)) := by
  rw [List.getElem?_append_left (by rw [U64_len]; exact h), U64_at _ _ h]
theorem I64_app_at {ms : List Int} {t : List Value} {k : Nat} (h : k < ms.length) : (I64 ms ++ t)[k]? = some (.int .i64 ms[k]) := by
  rw [List.getElem?_append_left (by rw [I64_len]; exact h), I64_at _ _ h]

/-- The whole block's first cells read as the list. -/
theorem Blk.rd {w : World} {g : Nat} {xs t : List Value} {e : TypeId} {n cap : Nat} (h : Blk w g (xs ++ t) e) (hn : xs.length = n) (hc : n ≤ cap) : Rd w.heap.size w (.slice (some ⟨g, 0, none⟩) n cap) xs := by
  refine ⟨_, cap, by rw [hn], by omega, .inr ⟨g, 0, rfl, h.lt, ?_⟩⟩
  intro j u hu
  rw [Nat.zero_add]
  refine h.cell j u ?_
  rw [List.getElem?_append_left (List.getElem?_eq_some_iff.1 hu).1]
  exact hu

/-- The item that made is handed. -/
theorem CSt.item {base U : Nat} {W0 w0 w : World} {xv yv bv : Value} {is : List It} {bs : List Bk} {P0 gv gm : Nat} {ops cv cm : List Value} {lo hi : Nat} {X : Nat} {vs ns : List Nat} {V M : Value} (h : WSt base U W0 w0 xv yv bv is bs) (hc : BSt w0 w P0 gv gm ops cv cm) (ll : w0.heap.size ≤ lo) (hh : hi ≤ w.heap.size) (hidx : Idx lo hi w X vs ns) (hf : Fits vs ns)
    (hV : RdM (Mut U xv yv bv) w0 V (U64 vs)) (hM : RdM (Mut U xv yv bv) w0 M (I64 (NI ns))) : ItOk (Mut U xv yv bv) w ⟨X, V, M, vs, ns⟩ := by
  have hul := h.ult
  have hfr : Fr (Mut U xv yv bv) w0 w := Below.fr hc.bel
  refine ⟨⟨lo, hi, hidx, hh, ?_⟩, hf, hV.fr hfr (fun _ _ m => m), hM.fr hfr (fun _ _ m => m)⟩
  intro k a _ hm
  rcases hm with q | q | q | q
  · omega
  · have := (h.ox.lt k q).2; omega
  · have := (h.oy.lt k q).2; omega
  · have := (h.ob.lt k q).2; omega
end Lw
end Go.Proofs.YtolkjadklbchfaaGreatDoor
/- Walks of the law: built, whole. -/
open Go Go.RowKit
namespace Go.Proofs.YtolkjadklbchfaaGreatDoor
namespace Lw
open Mem Rf Pr

def opCells (K A B C D : Int) (u x : Int) (V M S : Value) : List Value := [.int .i64 K, .int .i64 A, .int .i64 B, .int .i64 C, .int .i64 D, .int .u64 u, .int .u64 x, V, M, S]

set_option maxHeartbeats 4000000 in
set_option maxRecDepth 100000 in
theorem built_any (base U : Nat) (W0 w : World) (xv yv bv : Value) (is : List It) (bs : List Bk) (h : WSt base U W0 w xv yv bv is bs) (K A B C D u x : Int) (S : ByteArray)
    (pv : Option Addr) (n cv : Nat) (vs : List Nat) (hrv : RdM (Mut U xv yv bv) w (.slice pv n cv) (U64 vs)) (hbig : ∀ y ∈ vs, y < 18446744073709551616) (hn : n ≤ 17592186044000)
    (pm : Option Addr) (m cm : Nat) (ms : List Int) (hrm : RdM (Mut U xv yv bv) w (.slice pm m cm) (I64 ms)) (hm : m ≤ 17592186044000) :
    Calls Tryz.prog 7 #[.pointer (some ⟨U, 0, none⟩), .agg #[.int .i64 K, .int .i64 A, .int .i64 B, .int .i64 C, .int .i64 D, .int .u64 u, .int .u64 x, .slice pv n cv, .slice pm m cm, .string S]] w fun e w' => e = .returned (.bool true) ∧ ∃ xv' yv' is', WSt base U W0 w' xv' yv' bv is' bs := by
  obtain ⟨hl, hlc⟩ := hrv.1.len
  rw [U64_len] at hl
  obtain ⟨hl2, hlc2⟩ := hrm.1.len
  rw [I64_len] at hl2
  have HH := hide h
  have HRV := hide hrv
  have HRM := hide hrm
  have HL := hide hl
  have HL2 := hide hl2
  obtain ⟨i0, hi0, hz0, hz1, hz2⟩ := info_parts Ty.u64
  have HI := hide (And.intro hi0 (And.intro hz0 (And.intro hz1 hz2)))
  obtain ⟨j0, hj0, hy0, hy1, hy2⟩ := info_parts Ty.int
  have HJ := hide (And.intro hj0 (And.intro hy0 (And.intro hy1 hy2)))
  clear h hrv hrm hl hl2 hi0 hz0 hz1 hz2 hj0 hy0 hy1 hy2
  go_enter Tryz.func7, Tryz.ntmps7
  have RV2 : ∀ W1 W2 : World, (w.alloc (Obj.cells #[.int .i64 K, .int .i64 A, .int .i64 B, .int .i64 C, .int .i64 D, .int .u64 u, .int .u64 x, .slice pv n cv, .slice pm m cm, .string S] 38)).grownBy W1 none → W1.grownBy W2 none → Rd w.heap.size W2 (.slice pv n cv) (U64 vs) := fun W1 W2 g1 g2 => (((unhide HRV).1.alloc (Nat.le_refl _) _).grown g1 (by simp) (by intro k hk; cases hk)).grown g2 (by have := g1.size; simp at this; omega) (by intro k hk; cases hk)
  have HRV2 := hide RV2
  have RM2 : ∀ W1 W2 W3 : World, (w.alloc (Obj.cells #[.int .i64 K, .int .i64 A, .int .i64 B, .int .i64 C, .int .i64 D, .int .u64 u, .int .u64 x, .slice pv n cv, .slice pm m cm, .string S] 38)).grownBy W1 none → W1.grownBy W2 none → W2.grownBy W3 (some (w.heap.size + 1)) → Rd w.heap.size W3 (.slice pm m cm) (I64 ms) := fun W1 W2 W3 g1 g2 g3 => ((((unhide HRM).1.alloc (Nat.le_refl _) _).grown g1 (by simp) (by intro k hk; cases hk)).grown g2 (by have := g1.size; simp at this; omega) (by intro k hk; cases hk)).grown g3 (by have := g1.size; have := g2.size; simp at *; omega) (by intro k hk; simp at hk; omega)
  have HRM2 := hide RM2
  clear RV2 RM2
  go_wp2_with (first
    | (at_make; refine wpList_make_full _ rfl (.tmp 17) (.tmp 17) 35 rfl (w.heap.size + 1) 34 i0 (.int .u64 0) 1 Tryz.underlying35 (unhide HI).1 (unhide HI).2.1 (unhide HI).2.2.1 .i64 .i64 _ _ (n + 2) rfl rfl (by go_num) (by go_num) (by rw [(unhide HI).2.2.2]; omega) (by unfold maxLen; omega) (by simp) ?_; intro w1 ho1 hg1; rw [made_u64, rep2] at ho1; have hB1 := made_blk ho1; rw [show (w.alloc (Obj.cells #[.int .i64 K, .int .i64 A, .int .i64 B, .int .i64 C, .int .i64 D, .int .u64 u, .int .u64 x, .slice pv n cv, .slice pm m cm, .string S] 38)).heap.size = w.heap.size + 1 from by simp] at hB1; have a8 := ((show Blk (w.alloc (Obj.cells #[.int .i64 K, .int .i64 A, .int .i64 B, .int .i64 C, .int .i64 D, .int .u64 u, .int .u64 x, .slice pv n cv, .slice pm m cm, .string S] 38)) w.heap.size [.int .i64 K, .int .i64 A, .int .i64 B, .int .i64 C, .int .i64 D, .int .u64 u, .int .u64 x, .slice pv n cv, .slice pm m cm, .string S] 38 from heap_alloc_new _ _).grown hg1 (by simp)).cell 8 _ rfl; have hs1 := hg1.size; have HG1 := hide (And.intro hg1 hB1); have hl1 := hB1.lt; simp at hs1; clear ho1 hg1 hB1)
    | (at_make; refine wpList_make_full _ rfl (.tmp 22) (.tmp 22) 36 rfl (w.heap.size + 1) 3 j0 (.int .i64 0) 1 Tryz.underlying36 (unhide HJ).1 (unhide HJ).2.1 (unhide HJ).2.2.1 .i64 .i64 _ _ (m + 2) rfl rfl (by go_num) (by go_num) (by rw [(unhide HJ).2.2.2]; omega) (by unfold maxLen; omega) (by omega) ?_; intro w2 ho2 hg2; rw [made_i64, rep2] at ho2; have hB2 := made_blk ho2; have hX2 := ((show Blk (w.alloc (Obj.cells #[.int .i64 K, .int .i64 A, .int .i64 B, .int .i64 C, .int .i64 D, .int .u64 u, .int .u64 x, .slice pv n cv, .slice pm m cm, .string S] 38)) w.heap.size [.int .i64 K, .int .i64 A, .int .i64 B, .int .i64 C, .int .i64 D, .int .u64 u, .int .u64 x, .slice pv n cv, .slice pm m cm, .string S] 38 from heap_alloc_new _ _).grown (unhide HG1).1 (by simp)).grown hg2 (by simp); have b7 := hX2.cell 7 _ rfl; have b8 := hX2.cell 8 _ rfl; have hs2 := hg2.size; have hV2 := (unhide HG1).2.grown hg2 (by simp); have HG2 := hide (And.intro hg2 (And.intro hB2 (And.intro hX2 hV2))); clear ho2 hg2 hB2 hX2 hV2 a8)
    | (refine wpList_copy_in _ rfl (.tmp 24) (.tmp 26) 35 rfl 34 (.int .u64 0) 8 Tryz.underlying35 Ty.u64 (w.heap.size + 1) _ (n + 2) (List.replicate n (.int .u64 0)) [.int .u64 0, .int .u64 0] rfl (by simp) (unhide HG2).2.2.2 pv n cv (U64 vs) rfl ⟨_, unhide HRV2 w1 w2 (unhide HG1).1 (unhide HG2).1⟩ (by simp) (one_U64 _) ?_; intro w3 hB3 hg3; have hX3 := (unhide HG2).2.2.1.grown hg3 (by simp); have d8 := hX3.cell 8 _ rfl; have hs3 := hg3.size; have HG3 := hide (And.intro hg3 (And.intro hB3 (And.intro hX3 ((unhide HG2).2.1.grown hg3 (by simp; omega))))); clear hB3 hg3 hX3 b7 b8)
    | (refine wpList_copy_in _ rfl (.tmp 28) (.tmp 30) 36 rfl 3 (.int .i64 0) 8 Tryz.underlying36 Ty.int w1.heap.size _ (m + 2) (List.replicate m (.int .i64 0)) [.int .i64 0, .int .i64 0] rfl (by simp) (unhide HG3).2.2.2 pm m cm (I64 ms) rfl ⟨_, unhide HRM2 w1 w2 w3 (unhide HG1).1 (unhide HG2).1 (unhide HG3).1⟩ (by simp) (one_I64 _) ?_; intro w4 hB4 hg4; have ST := BSt.start (unhide HG1).1 (unhide HG1).2 (unhide HG2).1 (unhide HG2).2.1 (unhide HG3).1 (unhide HG3).2.1 hg4 hB4; have c7 := ST.box7.1; have e1 := ST.bv.cell n (.int .u64 0) (at_end (by rw [U64_len]; exact (unhide HL).symm)); have f1 := ST.bv.fz n; have ST2 := ST.putV n (.int .u64 77); have c8 := ST2.box7.2; have e2 := ST2.bm.cell m (.int .i64 0) (at_end (by rw [I64_len]; exact (unhide HL2).symm)); have f2 := ST2.bm.fz m; have HST := hide (ST2.putM m (.int .i64 77)); clear ST ST2 hB4 hg4 HG1 HG2 HG3 d8 HRV2 HRM2 HI HJ))
  have hst := unhide HST
  rw [set_end (by rw [U64_len]; exact (unhide HL).symm), set_end (by rw [I64_len]; exact (unhide HL2).symm)] at hst
  generalize hWW : (w4.setCell ⟨w.heap.size + 1, n, none⟩ (.int .u64 77)).setCell ⟨w1.heap.size, m, none⟩ (.int .i64 77) = W at *
  clear hWW HST c7 c8 e1 e2 f1 f2
  generalize hgm : w1.heap.size = gm at *
  clear hgm hs1 hs2 hs3 hl1
  have k7 := hst.box7.1
  have k8 := hst.box7.2
  have hWs := hst.bel.size
  have R1 := hide (Blk.rd (xs := U64 vs) (n := n) (cap := n + 2) hst.bv (by rw [U64_len]; exact (unhide HL).symm) (by omega))
  have R2 := hide (Blk.rd (xs := I64 ms) (n := m) (cap := m + 2) hst.bm (by rw [I64_len]; exact (unhide HL2).symm) (by omega))
  have lv := hst.bv.lt
  have lm := hst.bm.lt
  have l0 := hst.box.lt
  have HST := hide hst
  clear hst
  generalize hN2 : n + 2 = N2 at *
  generalize hM2 : m + 2 = M2 at *
  have bN1 : (0 : Int) ≤ (n : Int) := by omega
  have bN2 : (n : Int) ≤ (N2 : Int) := by omega
  have bN3 : (n : Int) + 1 < (N2 : Int) := by omega
  have bM1 : (0 : Int) ≤ (m : Int) := by omega
  have bM2 : (m : Int) ≤ (M2 : Int) := by omega
  have bM3 : (m : Int) + 1 < (M2 : Int) := by omega
  clear hN2 hM2
  go_region_held3 (fun w' => w'.cell? ⟨w.heap.size, 7, none⟩ = some (.slice pv n cv) ∧ w'.cell? ⟨w.heap.size, 8, none⟩ = some (.slice pm m cm)) (go_keep)
    ((go_at_call 11; (refine (build_v (some ⟨w.heap.size + 1, 0, none⟩) n N2 vs (some ⟨gm, 0, none⟩) W.heap.size m M2 ms W.drew (rd_drew (unhide R1)) (rd_drew (unhide R2)) (Nat.le_refl _) hbig (by omega) (by omega)).mono ?_); rintro e w5 ⟨xp, rfl, b5, res⟩; have b6 : Below W.heap.size W w5 := ⟨b5.os, b5.tape, b5.output, b5.size, b5.block⟩; have t1 := (b6.cell (p := ⟨w.heap.size, 7, none⟩) l0).trans k7; have t2 := (b6.cell (p := ⟨w.heap.size, 8, none⟩) l0).trans k8))
  have C5 : CSt w w5 w.heap.size (w.heap.size + 1) gm [.int .i64 K, .int .i64 A, .int .i64 B, .int .i64 C, .int .i64 D, .int .u64 u, .int .u64 x, .slice pv n cv, .slice pm m cm, .string S] (U64 vs ++ [.int .u64 77, .int .u64 0]) (I64 ms ++ [.int .i64 77, .int .i64 0]) W.heap.size w5.heap.size xp (Sp.fit n ms) vs ms :=
    ⟨(unhide HST).below b6, res, ⟨lv, lm⟩, hWs, Nat.le_refl _⟩
  have q1 := C5.st.bv.cell n (.int .u64 77) (at_end (by rw [U64_len]; exact (unhide HL).symm))
  have q2 := C5.st.bv.cell (n + 1) (.int .u64 0) (at_end2 (by rw [U64_len]; exact (unhide HL).symm))
  have q3 := C5.st.bm.cell m (.int .i64 77) (at_end (by rw [I64_len]; exact (unhide HL2).symm))
  have q4 := C5.st.bm.cell (m + 1) (.int .i64 0) (at_end2 (by rw [I64_len]; exact (unhide HL2).symm))
  have HC5 := hide C5
  clear C5 b5 b6 res k7 k8 HST R1 R2
  generalize w5.heap.size = hi at *
  generalize W.heap.size = lo at *
  generalize hfe : Sp.fit n ms = ee at *
  have HFE := hide hfe
  clear hfe
  go_wp2
  go_loopw [9, 10] (fun ok ii wr => ∃ (k : Nat) (cvk : List Value), k ≤ n ∧ ii = .int .i64 k ∧ ok = .bool true ∧ CSt w wr w.heap.size (w.heap.size + 1) gm [.int .i64 K, .int .i64 A, .int .i64 B, .int .i64 C, .int .i64 D, .int .u64 u, .int .u64 x, .slice pv n cv, .slice pm m cm, .string S] cvk (I64 ms ++ [.int .i64 77, .int .i64 0]) lo hi xp ee vs ms ∧ ∀ j, k ≤ j → (h : j < vs.length) → cvk[j]? = some (.int .u64 (vs[j] : Int))) (fun _ ii _ => n - (intOf ii).toNat)
  case atStart => exact ⟨0, _, Nat.zero_le _, rfl, rfl, unhide HC5, fun j _ h => U64_app_at h⟩
  case round =>
    obtain ⟨k, cvk, hk, rfl, rfl, hst, hcv⟩ := hrel
    have g7 := hst.st.box7.1
    by_cases hlt : k < n
    · have hlt' : k < vs.length := by rw [← unhide HL]; exact hlt
      have hck := hst.st.bv.cell k _ (hcv k (Nat.le_refl _) hlt')
      have hfk := hst.st.bv.fz k
      obtain ⟨b, o, hpe, hb, hcs⟩ := ((unhide HRV).1.below hst.st.bel).at k _ (U64_at vs k hlt')
      subst hpe
      have HCV := hide hcv
      have HST := hide hst
      clear hst hcv HC5 q1 q2 q3 q4 t1 t2
      generalize vs[k] = y at *
      go_wp2_with fail
      go_quiet (fail)
      go_wp2
      go_roundw
      case rel =>
        refine ⟨k + 1, _, by omega, by go_num, rfl, ((unhide HST).drewN nq).putV k _, ?_⟩
        intro j hj hjl
        rw [List.getElem?_set_ne (by omega)]
        exact unhide HCV j (by omega) hjl
      case measure => simp [intOf]; omega
    · have HST := hide hst
      clear hst hcv HC5 q1 q2 q3 q4 t1 t2
      go_wp2_with fail
      have g8 := (unhide HST).st.box7.2
      go_loopw [9, 11] (fun ok ii wr => ∃ (j : Nat) (cmk : List Value), j ≤ m ∧ ii = .int .i64 j ∧ ok = .bool true ∧ CSt w wr w.heap.size (w.heap.size + 1) gm [.int .i64 K, .int .i64 A, .int .i64 B, .int .i64 C, .int .i64 D, .int .u64 u, .int .u64 x, .slice pv n cv, .slice pm m cm, .string S] cvk cmk lo hi xp ee vs ms ∧ ∀ i, j ≤ i → (h : i < ms.length) → cmk[i]? = some (.int .i64 ms[i])) (fun _ ii _ => m - (intOf ii).toNat)
      case atStart => exact ⟨0, _, Nat.zero_le _, rfl, rfl, unhide HST, fun j _ h => I64_app_at h⟩
      case round =>
        obtain ⟨j, cmk, hj, rfl, rfl, hst, hcm⟩ := hrel
        have g7 := hst.st.box7.1
        have g8 := hst.st.box7.2
        clear HST
        by_cases hlt2 : j < m
        · have hlt' : j < ms.length := by rw [← unhide HL2]; exact hlt2
          have hck := hst.st.bm.cell j _ (hcm j (Nat.le_refl _) hlt')
          have hfk := hst.st.bm.fz j
          obtain ⟨b, o, hpe, hb, hcs⟩ := ((unhide HRM).1.below hst.st.bel).at j _ (I64_at ms j hlt')
          subst hpe
          have HCM := hide hcm
          have HST := hide hst
          clear hst hcm g7
          generalize ms[j] = y at *
          go_wp2_with fail
          go_quiet (fail)
          go_wp2
          go_roundw
          case rel =>
            refine ⟨j + 1, _, by omega, by go_num, rfl, ((unhide HST).drewN nq).putM j _, ?_⟩
            intro i hi hil
            rw [List.getElem?_set_ne (by omega)]
            exact unhide HCM i (by omega) hil
          case measure => simp [intOf]; omega
        · have HFT := hide (Rf.fit_any pv n cv pm _ m cm ms wr ((unhide HRM).1.below hst.st.bel) (by omega) (by omega))
          have HST := hide hst
          clear hst hcm
          go_wp2_with fail
          refine (unhide HFT).mono ?_
          rintro e w6 ⟨rfl, q, rfl⟩
          rw [unhide HFE]
          have g9 := ((unhide HST).drewN q).st.box7.1
          have g10 := ((unhide HST).drewN q).st.box7.2
          have hcs := (unhide HST).drewN q
          have HW6 := hide ((unhide HH).below hcs.st.bel)
          have HCS := hide hcs
          rcases hcs.res with ⟨hee, rfl⟩ | ⟨hee, X, ns, rfl, hms, hfit, hidx⟩
          · clear hcs HFT HST HFE g7 g8
            go_wp2_with fail
            refine at_same (made_err U _ _ ee _ hee) ?_
            go_wp2
            go_ret
            exact ⟨rfl, xv, yv, is, unhide HW6⟩
          · subst hee
            have hit := CSt.item (unhide HH) hcs.st hcs.ll hcs.hh hidx hfit (unhide HRV) (by rw [← hms]; exact unhide HRM)
            have HMD := hide (made_ok base U W0 _ xv yv bv is bs _ (unhide HW6) hit)
            clear hcs HFT HST HFE g7 g8 hit hidx hfit hms
            go_wp2_with fail
            refine (unhide HMD).mono ?_
            rintro e w7 ⟨rfl, xv', yv', is', hfin⟩
            have HFIN := hide hfin
            clear hfin
            go_wp2
            go_ret
            exact ⟨rfl, xv', yv', is', unhide HFIN⟩
end Lw
end Go.Proofs.YtolkjadklbchfaaGreatDoor
