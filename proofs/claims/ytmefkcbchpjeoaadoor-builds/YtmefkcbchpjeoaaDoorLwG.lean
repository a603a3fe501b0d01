/- Walks of the law: built. -/
import Derived.Test.YtmefkcbchpjeoaaDoorLwF
import Derived.Laws.CopyOwn
open Go Go.RowKit
namespace Go.Proofs.YtmefkcbchpjeoaaDoor
namespace Lw
open Mem Rf Pr

def Blk (w : World) (g : Nat) (cs : List Value) (t : TypeId) : Prop := w.heap[g]? = some (.cells cs.toArray t (0, 0))

theorem made_blk {w : World} {base : Nat} {e : TypeId} {g n : Nat} {xs : List Value} (h : w.ownsRow base e 1 (.slice (some ⟨g, 0, none⟩) n n) n xs) : Blk w g xs e := by
  rcases h.2 with ⟨h', _⟩ | ⟨g', cap', cur, h', _, hg, _, _, hcs, ht⟩
  · simp at h'
  · simp only [Value.slice.injEq, Option.some.injEq, Addr.mk.injEq, and_true, true_and] at h'
    obtain ⟨rfl, rfl⟩ := h'
    unfold Blk
    rw [hg, ← ht, List.take_of_length_le (by simp at hcs; simp [hcs])]

theorem Blk.cell {w : World} {g : Nat} {cs : List Value} {t : TypeId} (h : Blk w g cs t) (j : Nat) (u : Value) (hu : cs[j]? = some u) : w.cell? ⟨g, j, none⟩ = some u := by
  rw [cell_of_row _ _ _ _ _ (0, 0) h]
  simpa using hu
theorem Blk.fz {w : World} {g : Nat} {cs : List Value} {t : TypeId} (h : Blk w g cs t) (j : Nat) : w.frozen? ⟨g, j, none⟩ = false := frozen_of_row _ _ _ _ _ h
theorem Blk.lt {w : World} {g : Nat} {cs : List Value} {t : TypeId} (h : Blk w g cs t) : g < w.heap.size := (Array.getElem?_eq_some_iff.1 h).1
theorem Blk.grown {w w' : World} {g : Nat} {cs : List Value} {t : TypeId} {row : Option Nat} (h : Blk w g cs t) (hg : w.grownBy w' row) (hne : row ≠ some g) : Blk w' g cs t := by
  unfold Blk
  rw [hg.block g h.lt (fun e => hne e.symm)]
  exact h
theorem Blk.below {w w' : World} {B g : Nat} {cs : List Value} {t : TypeId} (h : Blk w g cs t) (hb : Below B w w') (hlt : g < B) : Blk w' g cs t := by
  unfold Blk
  rw [hb.block g hlt]
  exact h
theorem Blk.put {w : World} {g : Nat} {cs : List Value} {t : TypeId} (h : Blk w g cs t) (j : Nat) (u : Value) : Blk (w.setCell ⟨g, j, none⟩ u) g (cs.set j u) t := by
  unfold Blk
  rw [heap_setCell_same w g j _ _ u h]
  congr 2
  apply Array.ext'
  simp
theorem Blk.other {w : World} {g g' : Nat} {cs : List Value} {t : TypeId} (h : Blk w g cs t) (hne : g ≠ g') (j : Nat) (u : Value) : Blk (w.setCell ⟨g', j, none⟩ u) g cs t := by
  unfold Blk
  rw [Below.heap_setCell _ _ _ _ hne]
  exact h

/-- copy(d, s), d a whole block, s whatever reads, no longer than d. -/
theorem wpList_copy_in {P : Program} (w : World) {ops : Array Oper} {rest : List Oper} {o : Oper} {a : Act} {Q : Exit → Act → World → Prop} (hgd : o.guard = none) (d s : Operand) (dT : TypeId)
    (ho : o.op = .call { callee := .builtin .copy, args := #[d, s], argTypes := #[dT, dT] }) (elem : TypeId) (z : Value) (bytes : Nat) (hu : P.underlying dT = some (.slice elem)) (hinfo : (P.info? elem).map (fun i => (i.zero, i.size, i.bytes)) = some (some z, 1, bytes))
    (g dLen dCap : Nat) (A B : List Value) (hd : a.eval d = .slice (some ⟨g, 0, none⟩) dLen dCap) (hdl : dLen = A.length + B.length) (hg : Blk w g (A ++ B) elem)
    (sp : Option Addr) (n sCap : Nat) (ys : List Value) (hs : a.eval s = .slice sp n sCap) (hr : ∃ B', Rd B' w (.slice sp n sCap) ys) (hlen : A.length = n) (h1 : ∀ v ∈ ys, v.oneCell' = true)
    (h : ∀ w', Blk w' g (ys ++ B) elem → w.grownBy w' (some g) → wpList P ops Q rest (a.put o.dst (goInt n)) w') : wpList P ops Q (o :: rest) a w := by
  subst hdl
  obtain ⟨i, hi, _, hsize, _⟩ := info_parts hinfo
  obtain ⟨B', hr⟩ := hr
  have hsz : (P.info? elem).map (·.size) = some 1 := by rw [hi]; simp [hsize]
  obtain ⟨hl, _⟩ := hr.len
  by_cases h0 : n = 0
  · subst h0
    have hys : ys = [] := List.eq_nil_of_length_eq_zero hl.symm
    have hA : A = [] := List.eq_nil_of_length_eq_zero hlen
    subst hys
    subst hA
    refine wpList_copy_nothing hgd d s dT dT ho elem hu hsz _ _ _ _ _ _ hd hs (by simp) ?_
    exact h w (by simpa using hg) (World.grownBy.refl _ _)
  · obtain ⟨b, of, rfl, _, _⟩ := hr.at 0 (ys[0]'(by omega)) (by simp)
    have hc : ∀ j v, ys[j]? = some v → w.cell? ((⟨b, of, none⟩ : Addr).add j) = some v := by
      intro j v hv
      obtain ⟨b', of', he, _, hcc⟩ := hr.at j v hv
      simp only [Option.some.injEq, Addr.mk.injEq] at he
      obtain ⟨rfl, rfl, _⟩ := he
      rw [Addr.add_lit]
      exact hcc
    refine wpList_copy_own hgd d s dT dT ho elem hu hsz g 0 _ dCap ⟨b, of, none⟩ n sCap hd hs (A ++ B).toArray elem hg ys (by rw [← hl, hlen]; simp) hc (by simp; omega) h1 ?_
    rw [show ys.length = n from hl.symm]
    refine h _ ?_ ?_
    · unfold Blk
      rw [setRow_heap w g _ _ elem _ hg]
      simp only [List.take_zero, List.nil_append, Nat.zero_add]
      rw [show List.drop n (A ++ B) = B from by rw [← hlen]; simp]
    · exact ⟨rfl, rfl, rfl, by simp [World.setRow], fun k _ hk => setRow_other w g k _ (fun e => hk (by rw [e]))⟩

theorem made_u64 (k : Nat) : (madeCells (Value.int .u64 0).cells (k * 1)).toList = List.replicate k (Value.int .u64 0) := by
  show (madeCells #[Value.int .u64 0] (k * 1)).toList = _
  rw [toList_madeCells_one, Nat.mul_one]
theorem made_i64 (k : Nat) : (madeCells (Value.int .i64 0).cells (k * 1)).toList = List.replicate k (Value.int .i64 0) := by
  show (madeCells #[Value.int .i64 0] (k * 1)).toList = _
  rw [toList_madeCells_one, Nat.mul_one]
theorem rep2 (n : Nat) (z : Value) : List.replicate (n + 2) z = List.replicate n z ++ [z, z] := by
  rw [show n + 2 = n + 1 + 1 from rfl, List.replicate_succ', List.replicate_succ', List.append_assoc]
  rfl

/-- The memory of built: the step's box, the two lists. -/
structure BSt (w0 w : World) (P0 gv gm : Nat) (ops : List Value) (cv cm : List Value) : Prop where
  box : Blk w P0 ops 38
  bv : Blk w gv cv 34
  bm : Blk w gm cm 3
  l0 : w0.heap.size ≤ P0
  lv : w0.heap.size ≤ gv
  lm : w0.heap.size ≤ gm
  n1 : P0 ≠ gv
  n2 : P0 ≠ gm
  n3 : gv ≠ gm
  bel : Below w0.heap.size w0 w

theorem BSt.box7 {w0 w : World} {P0 gv gm : Nat} {K A B C D u x : Value} {V M S : Value} {cv cm : List Value} (h : BSt w0 w P0 gv gm [K, A, B, C, D, u, x, V, M, S] cv cm) : w.cell? ⟨P0, 7, none⟩ = some V ∧ w.cell? ⟨P0, 8, none⟩ = some M := ⟨h.box.cell 7 _ rfl, h.box.cell 8 _ rfl⟩
theorem BSt.putV {w0 w : World} {P0 gv gm : Nat} {ops cv cm : List Value} (h : BSt w0 w P0 gv gm ops cv cm) (j : Nat) (u : Value) : BSt w0 (w.setCell ⟨gv, j, none⟩ u) P0 gv gm ops (cv.set j u) cm :=
  ⟨h.box.other h.n1 j u, h.bv.put j u, h.bm.other (Ne.symm h.n3) j u, h.l0, h.lv, h.lm, h.n1, h.n2, h.n3, h.bel.setCell h.lv _⟩
theorem BSt.putM {w0 w : World} {P0 gv gm : Nat} {ops cv cm : List Value} (h : BSt w0 w P0 gv gm ops cv cm) (j : Nat) (u : Value) : BSt w0 (w.setCell ⟨gm, j, none⟩ u) P0 gv gm ops cv (cm.set j u) :=
  ⟨h.box.other h.n2 j u, h.bv.other h.n3 j u, h.bm.put j u, h.l0, h.lv, h.lm, h.n1, h.n2, h.n3, h.bel.setCell h.lm _⟩
theorem BSt.below {w0 w w' : World} {P0 gv gm : Nat} {ops cv cm : List Value} (h : BSt w0 w P0 gv gm ops cv cm) (hb : Below w.heap.size w w') : BSt w0 w' P0 gv gm ops cv cm :=
  ⟨h.box.below hb h.box.lt, h.bv.below hb h.bv.lt, h.bm.below hb h.bm.lt, h.l0, h.lv, h.lm, h.n1, h.n2, h.n3, h.bel.trans (hb.mono h.bel.size)⟩
theorem BSt.drewN {w0 w : World} {P0 gv gm : Nat} {ops cv cm : List Value} (h : BSt w0 w P0 gv gm ops cv cm) (q : Nat) : BSt w0 (w.drewN q) P0 gv gm ops cv cm :=
  ⟨h.box, h.bv, h.bm, h.l0, h.lv, h.lm, h.n1, h.n2, h.n3, ⟨h.bel.os, h.bel.tape, h.bel.output, h.bel.size, h.bel.block⟩⟩

theorem at_end {xs : List Value} {y z : Value} {n : Nat} (h : xs.length = n) : (xs ++ [y, z])[n]? = some y := by
  subst h
  simp
theorem at_end2 {xs : List Value} {y z : Value} {n : Nat} (h : xs.length = n) : (xs ++ [y, z])[n + 1]? = some z := by
  subst h
  simp
theorem set_end {xs : List Value} {y z u : Value} {n : Nat} (h : xs.length = n) : (xs ++ [y, z]).set n u = xs ++ [u, z] := by
  subst h
  simp

/-- The two lists are made, and filled. -/
theorem BSt.start {w w1 w2 w3 w4 : World} {ops ys zs zv zm : List Value} (hg1 : (w.alloc (.cells ops.toArray 38)).grownBy w1 none) (h1 : Blk w1 (w.heap.size + 1) (zv ++ [.int .u64 0, .int .u64 0]) 34)
    (hg2 : w1.grownBy w2 none) (_h2 : Blk w2 w1.heap.size (zm ++ [.int .i64 0, .int .i64 0]) 3)
    (hg3 : w2.grownBy w3 (some (w.heap.size + 1))) (h3 : Blk w3 (w.heap.size + 1) (ys ++ [.int .u64 0, .int .u64 0]) 34)
    (hg4 : w3.grownBy w4 (some w1.heap.size)) (h4 : Blk w4 w1.heap.size (zs ++ [.int .i64 0, .int .i64 0]) 3) :
    BSt w w4 w.heap.size (w.heap.size + 1) w1.heap.size ops (ys ++ [.int .u64 0, .int .u64 0]) (zs ++ [.int .i64 0, .int .i64 0]) := by
  have s1 := hg1.size
  have s2 := hg2.size
  have s3 := hg3.size
  have l1 := h1.lt
  simp at s1
  have b0 : Blk (w.alloc (.cells ops.toArray 38)) w.heap.size ops 38 := heap_alloc_new _ _
  refine ⟨(((b0.grown hg1 (by simp)).grown hg2 (by simp)).grown hg3 (by simp)).grown hg4 (by simp; omega), h3.grown hg4 (by simp; omega), h4, Nat.le_refl _, by omega, by omega, by omega, by omega, by omega, ?_⟩
  have q1 : Below w.heap.size w w1 := ((Below.refl _ _).alloc (Nat.le_refl _) _).grown hg1 (by simp) (by intro k hk; cases hk)
  have q2 := q1.grown hg2 q1.size (by intro k hk; cases hk)
  have q3 := q2.grown hg3 q2.size (by intro k hk; simp at hk; omega)
  exact q3.grown hg4 q3.size (by intro k hk; simp at hk; omega)
end Lw
end Go.Proofs.YtmefkcbchpjeoaaDoor
