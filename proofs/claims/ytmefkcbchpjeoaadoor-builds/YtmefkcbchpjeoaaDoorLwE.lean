/- Walks of the law: made. -/
import Derived.Test.YtmefkcbchpjeoaaDoorLwD
open Go Go.RowKit
namespace Go.Proofs.YtmefkcbchpjeoaaDoor
namespace Lw
open Mem Rf Pr

theorem WSt.mid {base U : Nat} {W0 w w1 : World} {xv yv bv xv' : Value} {is : List It} {bs : List Bk} {i : It} {o : Obj} (h : WSt base U W0 w xv yv bv is bs)
    (hown : w1.ownsRow base 41 1 xv' (is.length + 1) (ptrs is ++ [.pointer (some ⟨i.X, 0, none⟩)])) (hg : (w.alloc o).grownBy w1 xv.ownBlock) (hat : xv'.ownBlock = xv.ownBlock ∨ xv'.ownBlock = some (w.alloc o).heap.size) :
    w1.cell? ⟨U, 0, none⟩ = some xv ∧ w1.frozen? ⟨U, 0, none⟩ = false ∧ (w1.setCell ⟨U, 0, none⟩ xv').heap[U]? = some (.cells #[xv', yv, bv] 32 (0, 0)) ∧ (w1.setCell ⟨U, 0, none⟩ xv').ownsRow base 52 2 yv is.length (refs is) ∧
      (w1.setCell ⟨U, 0, none⟩ xv').ownsRow base 41 1 xv' (is.length + 1) (ptrs is ++ [.pointer (some ⟨i.X, 0, none⟩)]) ∧
      (∀ k, xv'.ownBlock = some k → xv.ownBlock = some k ∨ w.heap.size < k) ∧ w.heap.size ≤ (w1.setCell ⟨U, 0, none⟩ xv').heap.size ∧
      (∀ k, k < w.heap.size → k ≠ U → xv.ownBlock ≠ some k → (w1.setCell ⟨U, 0, none⟩ xv').heap[k]? = w.heap[k]?) ∧ Below base W0 (w1.setCell ⟨U, 0, none⟩ xv') := by
  have hul := h.ult
  have hs1 := hg.size
  simp at hs1
  have hbase : base ≤ w.heap.size := by have := h.u0; omega
  have st1 : ∀ k, k < w.heap.size → xv.ownBlock ≠ some k → w1.heap[k]? = w.heap[k]? := by
    intro k hk hne
    rw [hg.block k (by simp; omega) (fun e => hne e.symm)]
    exact Below.heap_alloc _ _ _ hk
  have bU : w1.heap[U]? = some (.cells #[xv, yv, bv] 32 (0, 0)) := by
    rw [st1 U hul h.xu]
    exact h.blk
  have nlt : ∀ k, xv'.ownBlock = some k → xv.ownBlock = some k ∨ w.heap.size < k := by
    intro k hk
    rcases hat with q | q
    · exact .inl (q ▸ hk)
    · rw [q] at hk
      simp at hk
      exact .inr (by omega)
  have setU : ∀ k, k ≠ U → (w1.setCell ⟨U, 0, none⟩ xv').heap[k]? = w1.heap[k]? := fun k hk => Below.heap_setCell _ _ _ _ hk
  refine ⟨by rw [cell_of_row _ _ _ _ _ (0, 0) bU]; rfl, frozen_of_row _ _ _ _ _ bU, ?_, ?_, ?_, nlt, by simp; omega, ?_, ?_⟩
  · rw [heap_setCell_same w1 U 0 _ _ _ bU]
    rfl
  · refine own_same h.oy (fun k hk => ?_)
    have := (h.oy.lt k hk).2
    rw [setU k (fun e => h.yu (e ▸ hk)), st1 k this (fun e => h.xy k e hk)]
  · refine own_setCell_ne hown (fun g hgg e => ?_) _
    simp only at e
    subst e
    rcases nlt g hgg with r | r
    · exact h.xu r
    · omega
  · intro k hk hne hx
    rw [setU k hne, st1 k hk hx]
  · exact ((h.bel.alloc hbase o).grown hg (by simp; omega) (fun k hk => (h.ox.lt k hk).1)).setCell h.u0 _

theorem WSt.more {base U : Nat} {W0 w w1 w2 : World} {xv yv bv xv' yv' : Value} {is : List It} {bs : List Bk} {i : It} {o : Obj} (h : WSt base U W0 w xv yv bv is bs) (hi : ItOk (Mut U xv yv bv) w i) (hlen : is.length < 6)
    (bU : w1.heap[U]? = some (.cells #[xv', yv, bv] 32 (0, 0))) (ox : w1.ownsRow base 41 1 xv' (is.length + 1) (ptrs is ++ [.pointer (some ⟨i.X, 0, none⟩)]))
    (nx : ∀ k, xv'.ownBlock = some k → xv.ownBlock = some k ∨ w.heap.size < k) (hs : w.heap.size ≤ w1.heap.size) (st : ∀ k, k < w.heap.size → k ≠ U → xv.ownBlock ≠ some k → w1.heap[k]? = w.heap[k]?) (hb : Below base W0 w1)
    (hown : w2.ownsRow base 52 2 yv' (is.length + 1) (refs is ++ [i.V, i.M])) (hg : (w1.alloc o).grownBy w2 yv.ownBlock) (hat : yv'.ownBlock = yv.ownBlock ∨ yv'.ownBlock = some (w1.alloc o).heap.size) :
    w2.cell? ⟨U, 1, none⟩ = some yv ∧ w2.frozen? ⟨U, 1, none⟩ = false ∧ WSt base U W0 (w2.setCell ⟨U, 1, none⟩ yv') xv' yv' bv (is ++ [i]) bs := by
  have hul := h.ult
  have hs2 := hg.size
  simp at hs2
  have hbase : base ≤ w.heap.size := by have := h.u0; omega
  have ylt : ∀ k, yv.ownBlock = some k → k < w.heap.size := fun k hk => (h.oy.lt k hk).2
  have blt : ∀ k, bv.ownBlock = some k → k < w.heap.size := fun k hk => (h.ob.lt k hk).2
  have xlt : ∀ k, xv'.ownBlock = some k → k < w1.heap.size := fun k hk => (ox.lt k hk).2
  have st1 : ∀ k, k < w1.heap.size → yv.ownBlock ≠ some k → w2.heap[k]? = w1.heap[k]? := by
    intro k hk hne
    rw [hg.block k (by simp; omega) (fun e => hne e.symm)]
    exact Below.heap_alloc _ _ _ hk
  have bU2 : w2.heap[U]? = some (.cells #[xv', yv, bv] 32 (0, 0)) := by
    rw [st1 U (by omega) h.yu]
    exact bU
  have ny : ∀ k, yv'.ownBlock = some k → yv.ownBlock = some k ∨ w1.heap.size < k := by
    intro k hk
    rcases hat with q | q
    · exact .inl (q ▸ hk)
    · rw [q] at hk
      simp at hk
      exact .inr (by omega)
  have setU : ∀ k, k ≠ U → (w2.setCell ⟨U, 1, none⟩ yv').heap[k]? = w2.heap[k]? := fun k hk => Below.heap_setCell _ _ _ _ hk
  have hfr : Fr (Mut U xv yv bv) w (w2.setCell ⟨U, 1, none⟩ yv') := by
    refine ⟨by simp; omega, fun k hk hm => ?_⟩
    rw [setU k (fun e => hm (.inl e)), st1 k (by omega) (fun e => hm (.inr (.inr (.inl e)))), st k hk (fun e => hm (.inl e)) (fun e => hm (.inr (.inl e)))]
  have hM : ∀ k, k < w.heap.size → Mut U xv' yv' bv k → Mut U xv yv bv k := by
    intro k hk hm
    rcases hm with q | q | q | q
    · exact .inl q
    · rcases nx k q with r | r
      · exact .inr (.inl r)
      · omega
    · rcases ny k q with r | r
      · exact .inr (.inr (.inl r))
      · omega
    · exact .inr (.inr (.inr q))
  have nyU : yv'.ownBlock ≠ some U := by
    intro e
    rcases ny U e with r | r
    · exact h.yu r
    · omega
  have nxU : xv'.ownBlock ≠ some U := by
    intro e
    rcases nx U e with r | r
    · exact h.xu r
    · omega
  refine ⟨by rw [cell_of_row _ _ _ _ _ (0, 0) bU2]; rfl, frozen_of_row _ _ _ _ _ bU2, h.u0, ?_, ?_, ?_, ?_, ?_, ?_, ?_, nxU, nyU, h.bu, ?_, ?_, by simp; omega, ?_⟩
  · rw [heap_setCell_same w2 U 1 _ _ _ bU2]
    rfl
  · have e : ptrs (is ++ [i]) = ptrs is ++ [.pointer (some ⟨i.X, 0, none⟩)] := by simp [ptrs]
    rw [e, List.length_append]
    refine own_same ox (fun k hk => ?_)
    have := xlt k hk
    rw [setU k (fun e => nxU (e ▸ hk)), st1 k this (fun e => ?_)]
    rcases nx k hk with r | r
    · exact h.xy k r e
    · have := ylt k e; omega
  · have e : refs (is ++ [i]) = refs is ++ [i.V, i.M] := by simp [refs]
    rw [e, List.length_append]
    refine own_setCell_ne hown (fun g hgg e => ?_) _
    simp only at e
    subst e
    exact nyU hgg
  · refine own_same h.ob (fun k hk => ?_)
    have := blt k hk
    rw [setU k (fun e => h.bu (e ▸ hk)), st1 k (by omega) (fun e => h.yb k e hk), st k this (fun e => h.bu (e ▸ hk)) (fun e => h.xb k e hk)]
  · intro k hk e
    rcases ny k e with r | r
    · rcases nx k hk with q | q
      · exact h.xy k q r
      · have := ylt k r; omega
    · have := xlt k hk; omega
  · intro k hk e
    rcases nx k hk with q | q
    · exact h.xb k q e
    · have := blt k e; omega
  · intro k hk e
    rcases ny k hk with q | q
    · exact h.yb k q e
    · have := blt k e; omega
  · intro c hc
    rcases List.mem_append.1 hc with q | q
    · exact (h.its c q).fr hfr hM
    · simp at q
      subst q
      exact hi.fr hfr hM
  · exact fun b hb => (h.bok b hb).fr hfr hM
  · exact ((hb.alloc (by omega) o).grown hg (by simp; omega) (fun k hk => (h.oy.lt k hk).1)).setCell h.u0 _

theorem ptrs_len (is : List It) : (ptrs is).length = is.length := by simp [ptrs]

set_option maxHeartbeats 1000000 in
theorem made_err (U : Nat) (V M : Value) (q : Int) (w : World) (hq : (q == 0) = false) :
    Calls Tryd.prog 11 #[.pointer (some ⟨U, 0, none⟩), .pointer none, .int .i64 q, V, M, .int .i64 q] w fun e w' => e = .returned (.bool true) ∧ w' = w := by
  have hq2 : (q != 0) = true := by simp [bne, hq]
  have hq3 : (q != q) = false := by simp
  go_enter Tryd.func11, Tryd.ntmps11
  go_wp2
  go_ret
  exact ⟨rfl, rfl⟩

theorem one_two (a b : Option Addr) (n1 c1 n2 c2 : Nat) : ∀ u ∈ [Value.slice a n1 c1, .slice b n2 c2], u.oneCell' = true := by
  intro u hu
  simp at hu
  rcases hu with rfl | rfl <;> rfl
theorem one_ptr (a : Option Addr) : ∀ u ∈ [Value.pointer a], u.oneCell' = true := by
  intro u hu
  simp at hu
  subst hu
  rfl

theorem mid_cell {W : World} {U : Nat} {a b c : Value} (h : W.heap[U]? = some (.cells #[a, b, c] 32 (0, 0))) : W.cell? ⟨U, 1, none⟩ = some b := by
  rw [cell_of_row _ _ _ _ _ (0, 0) h]
  rfl

set_option maxHeartbeats 2000000 in
theorem made_ok (base U : Nat) (W0 w : World) (xv yv bv : Value) (is : List It) (bs : List Bk) (i : It) (h : WSt base U W0 w xv yv bv is bs) (hi : ItOk (Mut U xv yv bv) w i) :
    Calls Tryd.prog 11 #[.pointer (some ⟨U, 0, none⟩), .pointer (some ⟨i.X, 0, none⟩), .int .i64 0, i.V, i.M, .int .i64 0] w fun e w' => e = .returned (.bool true) ∧ ∃ xv' yv' is', WSt base U W0 w' xv' yv' bv is' bs := by
  obtain ⟨c0, c1, _, hfz⟩ := h.cells
  obtain ⟨pv, cv, hV, _⟩ := hi.rv.1.form
  obtain ⟨pm, cm, hM, _⟩ := hi.rm.1.form
  obtain ⟨px, cx, rfl, hcx⟩ := own_slice h.ox
  obtain ⟨py, cy, rfl, hcy⟩ := own_slice h.oy
  have hl := h.ilen
  have hul := h.ult
  have hbase : base ≤ w.heap.size := by have := h.u0; omega
  have HH := hide h
  have HI := hide hi
  clear h hi
  by_cases h6 : is.length < 6
  · rw [U64_len] at hV
    generalize hgl : (I64 (NI i.ms)).length = ml at *
    clear hgl
    have HVM := And.intro (hide hV) (hide hM)
    rw [hV, hM]
    clear hV hM
    go_enter Tryd.func11, Tryd.ntmps11
    go_wp2_with (first
      | (at_builtin; refine wpList_appN _ rfl (.tmp 37) (.tmp 39) 26 rfl base 41 (.pointer none) 1 8 Tryd.underlying26 Ty.pindex rfl (by decide) (.slice px is.length cx) _ _ rfl ((unhide HH).ox.alloc _) _ [.pointer (some ⟨i.X, 0, none⟩)] rfl rfl (lit_news w _ _ _ rfl) (one_ptr _) (by unfold maxLen; omega) (by omega) (by simp; omega) ?_; intro v1 w1 ho1 hg1 hat1; have R := WSt.mid (i := i) (unhide HH) ho1 hg1 hat1; obtain ⟨p1, d1, rfl, _⟩ := own_slice ho1; have y1 := R.1; have y2 := R.2.1; have y3 := mid_cell R.2.2.1; have hws := R.2.2.2.2.2.2.1; have HR := hide R.2.2; clear R ho1 hg1 hat1)
      | (at_builtin; refine wpList_appN _ rfl (.tmp 47) (.tmp 51) 27 rfl base 52 (.agg #[.slice none 0 0, .slice none 0 0]) 2 48 Tryd.underlying27 Ty.rindex rfl (by decide) (.slice py is.length cy) _ _ rfl ((unhide HR).2.1.alloc _) ⟨w1.heap.size, 0, none⟩ [.slice pv i.vs.length cv, .slice pm ml cm] rfl rfl (lit_news _ _ _ _ (by simp)) (one_two _ _ _ _ _ _) (by unfold maxLen; omega) (by omega) (by simp at hws; simp; omega) ?_; intro v2 w2 ho2 hg2 hat2; have R := WSt.more (unhide HH) (unhide HI) h6 (unhide HR).1 (unhide HR).2.2.1 (unhide HR).2.2.2.1 (unhide HR).2.2.2.2.1 (unhide HR).2.2.2.2.2.1 (unhide HR).2.2.2.2.2.2 (by rw [unhide HVM.1, unhide HVM.2]; exact ho2) hg2 hat2; obtain ⟨p2, d2, rfl, _⟩ := own_slice ho2; have z1 := R.1; have z2 := R.2.1; have HR2 := hide R.2.2; clear R ho2 hg2 hat2))
    go_ret
    exact ⟨rfl, _, _, _, unhide HR2⟩
  · go_enter Tryd.func11, Tryd.ntmps11
    go_wp2
    go_ret
    exact ⟨rfl, _, _, _, unhide HH⟩
end Lw
end Go.Proofs.YtmefkcbchpjeoaaDoor
