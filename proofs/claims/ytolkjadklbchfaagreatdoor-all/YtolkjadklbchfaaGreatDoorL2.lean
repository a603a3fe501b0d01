import Derived.Test.YtolkjadklbchfaaGreatDoorL1
import Derived.Deep.DrawnRows
import Derived.Laws.BytesArg
/- Walks of the law: keep. -/
open Go Go.RowKit
namespace Go.Proofs.YtolkjadklbchfaaGreatDoor
namespace Lw
open Mem Rf Pr

theorem rep_step {n m k : Nat} {xs : List Nat} (hx : xs.length = n) (hk : k < n) : By (List.replicate (k + 1) m ++ xs.drop (k + 1)) = (By (List.replicate k m ++ xs.drop k)).set k (.int .u8 (m : Int)) := by
  apply List.ext_getElem?
  intro j
  rw [List.getElem?_set]
  simp only [By, List.getElem?_map, List.length_map, List.length_append, List.length_replicate, List.length_drop]
  by_cases hj : k = j
  · subst hj
    rw [List.getElem?_append_left (by simp), List.getElem?_replicate, if_pos (by omega), if_pos rfl, if_pos (by omega)]
    rfl
  · rw [if_neg hj]
    by_cases hjk : j < k
    · rw [List.getElem?_append_left (by simp; omega), List.getElem?_append_left (by simp; omega), List.getElem?_replicate, List.getElem?_replicate, if_pos (by omega), if_pos (by omega)]
    · rw [List.getElem?_append_right (by simp; omega), List.getElem?_append_right (by simp; omega), List.getElem?_drop, List.getElem?_drop]
      simp only [List.length_replicate]
      congr 2
      omega

/-- What keep has while it makes the longer lists. -/
structure KSt (lo : Nat) (w W : World) (XB : Nat) (C : Array Value) (l : Value) (n m : Nat) : Prop where
  blk : W.heap[XB]? = some (.cells C 56 (0, 0))
  ful : Fu W lo l n m
  nx : l.ownBlock ≠ some XB
  bel : Below lo w W
  lx : lo ≤ XB

theorem KSt.start {lo : Nat} {w wr : World} {l : Value} {n m : Nat} (C : Array Value) (hf : Fu wr lo l n m) (hb : Below lo w wr) (hlo : lo ≤ wr.heap.size) : KSt lo w (wr.alloc (.cells C 56)) wr.heap.size C l n m := by
  refine ⟨heap_alloc_new _ _, hf.alloc _, ?_, hb.alloc hlo _, hlo⟩
  intro e
  have := (hf.lt _ e).2
  omega

theorem KSt.cell {lo : Nat} {w W : World} {XB : Nat} {C : Array Value} {l : Value} {n m : Nat} (h : KSt lo w W XB C l n m) (j : Nat) (u : Value) (hu : C[j]? = some u) : W.cell? ⟨XB, j, none⟩ = some u ∧ W.frozen? ⟨XB, j, none⟩ = false :=
  ⟨by rw [cell_of_row _ _ _ _ _ (0, 0) h.blk]; exact hu, frozen_of_row _ _ _ _ _ h.blk⟩

theorem KSt.app {lo : Nat} {w W W1 : World} {XB : Nat} {C : Array Value} {l v' : Value} {n m q : Nat} {o : Obj} (h : KSt lo w W XB C l n m) (hlo : lo ≤ W.heap.size) (hfu : Fu W1 lo v' q m) (hg : (W.alloc o).grownBy W1 l.ownBlock) (hat : v'.ownBlock = l.ownBlock ∨ v'.ownBlock = some (W.alloc o).heap.size)
    (hk : ∀ b k, Fu (W.alloc o) lo b k m → Fu W1 lo b k m) (j : Nat) :
    KSt lo w W1 XB C l n m ∧ v'.ownBlock ≠ some XB ∧ KSt lo w (W1.setCell ⟨XB, j, none⟩ v') XB (C.setIfInBounds j v') l n m ∧ Fu (W1.setCell ⟨XB, j, none⟩ v') lo v' q m ∧
      (∀ b k, Fu W lo b k m → b.ownBlock ≠ some XB → Fu (W1.setCell ⟨XB, j, none⟩ v') lo b k m) ∧ W.heap.size ≤ (W1.setCell ⟨XB, j, none⟩ v').heap.size := by
  have hx := (Array.getElem?_eq_some_iff.1 h.blk).1
  have hs := hg.size
  simp at hs
  have b1 : W1.heap[XB]? = some (.cells C 56 (0, 0)) := by
    rw [hg.block XB (by simp; omega) (fun e => h.nx e.symm), Below.heap_alloc _ _ _ hx]
    exact h.blk
  have hv : v'.ownBlock ≠ some XB := by
    intro e
    rcases hat with q | q
    · exact h.nx (q ▸ e)
    · rw [q] at e
      simp at e
      omega
  have hb1 : Below lo w W1 := (h.bel.alloc hlo o).grown hg (by simp; omega) (fun k hk => (h.ful.lt k hk).1)
  have k1 : KSt lo w W1 XB C l n m := ⟨b1, hk l n (h.ful.alloc o), h.nx, hb1, h.lx⟩
  have ne : ∀ {b : Value}, b.ownBlock ≠ some XB → ∀ g, b.ownBlock = some g → g ≠ XB := fun hb g hg e => hb (e ▸ hg)
  refine ⟨k1, hv, ⟨heap_setCell_same W1 XB j C _ v' b1, own_setCell_ne k1.ful (ne h.nx) _, h.nx, hb1.setCell h.lx _, h.lx⟩, own_setCell_ne hfu (ne hv) _, ?_, by simp; omega⟩
  intro b k hb hne
  exact own_setCell_ne (hk b k (hb.alloc o)) (ne hne) _

theorem rep_news (W : World) (j H : Nat) (x : Value) (t : TypeId) (hH : W.heap.size = H) : ∀ q u, (List.replicate j x)[q]? = some u → (W.alloc (.cells (List.replicate j x).toArray t)).cell? ((⟨H, 0, none⟩ : Addr).add q) = some u :=
  lit_news W (List.replicate j x) H t hH

theorem one_five (a b c d : Option Addr) (n1 c1 n2 c2 n3 c3 n4 c4 : Nat) (m : Int) : ∀ u ∈ [Value.slice a n1 c1, .slice b n2 c2, .slice c n3 c3, .slice d n4 c4, .int .u8 m], u.oneCell' = true := by
  intro u hu
  simp at hu
  rcases hu with rfl | rfl | rfl | rfl | rfl <;> rfl

set_option maxHeartbeats 2000000 in
theorem keep_any (base U : Nat) (W0 w0 w : World) (xv yv bv : Value) (is : List It) (bs : List Bk) (h : WSt base U W0 w0 xv yv bv is bs) (hb : Below w0.heap.size w0 w) (l : Value) (n : Nat) (xs : List Nat) (hl : w.ownsRow w0.heap.size 5 1 l n (By xs)) (hn : n ≤ 1000000000) (hbs : bs.length ≤ 1300000000000) :
    Calls Tryz.prog 20 #[.pointer (some ⟨U, 2, none⟩), l] w fun e w' => e = .returned (.tuple #[]) ∧ ∃ bv' bs', WSt base U W0 w' xv yv bv' is bs' ∧ bs'.length = bs.length + 1 := by
  have hul := h.ult
  have hc : w.cell? ⟨U, 2, none⟩ = some bv := (hb.cell (p := ⟨U, 2, none⟩) hul).trans h.cells.2.2.1
  obtain ⟨pb, cb, rfl, hcb⟩ := own_slice h.ob
  obtain ⟨pl, cl, rfl, hcl⟩ := own_slice hl
  have hxl : xs.length = n := by have := hl.1; rw [By_len] at this; omega
  obtain ⟨mm, hmm⟩ : ∃ mm, mm = 1 + bs.length % 255 := ⟨_, rfl⟩
  have hm1 : (1 + (bs.length : Int) % 255) = (mm : Int) := by omega
  have hm2 : mm ≤ 255 := by omega
  have hlo := hb.size
  have HH := hide h
  have HB := hide hb
  have HL := hide hl
  have HX := hide hxl
  clear h hb hl hxl hmm
  go_enter Tryz.func20, Tryz.ntmps20
  go_wp2
  go_loopw [5] (fun ii wr => ∃ k : Nat, k ≤ n ∧ ii = .int .i64 k ∧ wr.ownsRow w0.heap.size 5 1 (.slice pl n cl) n (By (List.replicate k mm ++ xs.drop k)) ∧ Below w0.heap.size w wr) (fun ii _ => n - (intOf ii).toNat)
  case atStart => exact ⟨0, Nat.zero_le _, rfl, by simpa using unhide HL, Below.refl _ _⟩
  case round =>
    obtain ⟨k, hk, rfl, hown, hbel⟩ := hrel
    clear hc
    by_cases hlt : k < n
    · obtain ⟨g, cap, he, hcap, hbg, hg, hcells, hfr⟩ := own_form hown (by omega)
      simp only [Value.slice.injEq] at he
      obtain ⟨rfl, _, rfl⟩ := he
      have hxk : (By (List.replicate k mm ++ xs.drop k))[k]? = some (.int .u8 ((xs[k]'(by rw [unhide HX]; exact hlt) : Nat) : Int)) := by
        rw [By_at _ _ (by simp; rw [unhide HX]; omega)]
        simp
      have hck := hcells k _ hxk
      have hfk := hfr k
      have HST := hide (And.intro hown hbel)
      have HRS := hide (rep_step (m := mm) (unhide HX) hlt)
      clear hcells hfr hxk hown hbel
      go_wp2
      go_roundw
      case rel =>
        refine ⟨k + 1, by omega, by go_num, ?_, (unhide HST).2.setCell hbg _⟩
        rw [unhide HRS]
        exact ((unhide HST).1.stored k _).1
      case measure => simp [intOf]; omega
    · have he : k = n := by omega
      subst he
      have hfu : Fu wr w0.heap.size (.slice pl k cl) k mm := by
        have e : xs.drop k = [] := List.drop_eq_nil_of_le (by rw [unhide HX]; exact Nat.le_refl _)
        rw [e, List.append_nil] at hown
        exact hown
      have hwr : w0.heap.size ≤ wr.heap.size := Nat.le_trans hlo hbel.size
      have K0 := hide (KSt.start #[.slice pl k cl, .slice none 0 0, .slice none 0 0, .slice none 0 0, .int .u8 (mm : Int)] hfu hbel hwr)
      clear hown hfu hbel
      go_wp2_with (first
        | (at_builtin; refine wpList_app_full _ rfl (.tmp 28) (.tmp 30) 49 rfl w0.heap.size Tryz.underlying49 Ty.u8 (.slice pl k cl) k mm rfl ((unhide K0).ful.alloc _) ⟨wr.heap.size + 1, 0, none⟩ 1 1 rfl (rep_news _ 1 _ _ _ (by simp)) (by omega) (by simp; omega) ?_; intro a1 W1 hf1 hg1 hat1 hk1; have A1 := KSt.app (unhide K0) (by simp; omega) hf1 hg1 hat1 hk1 1; have q1 := (A1.1.cell 1 _ rfl).1; have r1 := (A1.1.cell 1 _ rfl).2; have hw1 := A1.2.2.2.2.2; obtain ⟨pa, ca, rfl, _⟩ := own_slice hf1; have HA1 := hide A1; clear A1 hf1 hg1 hat1 hk1)
        | (at_builtin; refine wpList_app_full _ rfl (.tmp 33) (.tmp 36) 49 rfl w0.heap.size Tryz.underlying49 Ty.u8 (.slice pl k cl) k mm rfl ((unhide HA1).2.2.1.ful.alloc _) ⟨W1.heap.size, 0, none⟩ 2 2 rfl (rep_news _ 2 _ _ _ (by simp)) (by omega) (by simp at hw1; simp; omega) ?_; intro a2 W2 hf2 hg2 hat2 hk2; have A2 := KSt.app (unhide HA1).2.2.1 (by simp at hw1; simp; omega) hf2 hg2 hat2 hk2 2; have q2 := (A2.1.cell 2 _ rfl).1; have r2 := (A2.1.cell 2 _ rfl).2; have hw2 := A2.2.2.2.2.2; obtain ⟨pq, cq, rfl, _⟩ := own_slice hf2; have HA2 := hide A2; clear A2 hf2 hg2 hat2 hk2)
        | (at_builtin; refine wpList_app_full _ rfl (.tmp 39) (.tmp 43) 49 rfl w0.heap.size Tryz.underlying49 Ty.u8 (.slice pl k cl) k mm rfl ((unhide HA2).2.2.1.ful.alloc _) ⟨W2.heap.size, 0, none⟩ 3 3 rfl (rep_news _ 3 _ _ _ (by simp)) (by omega) (by simp at hw1 hw2; simp; omega) ?_; intro a3 W3 hf3 hg3 hat3 hk3; have A3 := KSt.app (unhide HA2).2.2.1 (by simp at hw1 hw2; simp; omega) hf3 hg3 hat3 hk3 3; have q3 := (A3.1.cell 3 _ rfl).1; have r3 := (A3.1.cell 3 _ rfl).2; have hw3 := A3.2.2.2.2.2; obtain ⟨pr, cr, rfl, _⟩ := own_slice hf3; have HA3 := hide A3; clear A3 hf3 hg3 hat3 hk3))
      have F0 := (unhide HA3).2.2.1
      have fa := (unhide HA3).2.2.2.2.1 _ _ ((unhide HA2).2.2.2.2.1 _ _ (unhide HA1).2.2.2.1 (unhide HA1).2.1) (unhide HA1).2.1
      have fb := (unhide HA3).2.2.2.2.1 _ _ (unhide HA2).2.2.2.1 (unhide HA2).2.1
      have fc := (unhide HA3).2.2.2.1
      clear HA1 HA2 HA3 q1 q2 q3 r1 r2 r3 K0
      generalize hWW : W3.setCell ⟨wr.heap.size, 3, none⟩ (.slice pr (k + 3) cr) = W at *
      clear hWW
      have x0 := (F0.cell 0 _ rfl).1
      have x1 := (F0.cell 1 _ rfl).1
      have x2 := (F0.cell 2 _ rfl).1
      have x3 := (F0.cell 3 _ rfl).1
      have x4 := (F0.cell 4 _ rfl).1
      have hbW : Below w0.heap.size w0 W := (unhide HB).trans F0.bel
      have hu2 : W.cell? ⟨U, 2, none⟩ = some (.slice pb bs.length cb) := (hbW.cell (p := ⟨U, 2, none⟩) hul).trans (unhide HH).cells.2.2.1
      have hob := own_later (unhide HH).ob hbW
      have hW0 := hbW.size
      have hbase : base ≤ w0.heap.size := by have := (unhide HH).u0; omega
      have HZ := hide (And.intro F0 (And.intro fa (And.intro fb (And.intro fc (And.intro hbW hob)))))
      clear F0 fa fb fc hbW hob hw1 hw2 hw3
      have hca : ∀ o, (W.alloc o).cell? ⟨U, 2, none⟩ = some (.slice pb bs.length cb) := fun o => (((Below.refl W.heap.size W).alloc (Nat.le_refl _) o).cell (p := ⟨U, 2, none⟩) (World.block_lt_of_cell? _ _ hu2)).trans hu2
      go_region_law (first
        | (refine step_appN _ (by rfl) (.tmp 50) (.tmp 52) 28 (by rfl) base 56 (.agg #[.slice none 0 0, .slice none 0 0, .slice none 0 0, .slice none 0 0, .int .u8 0]) 5 104 Tryz.underlying28 Ty.bk rfl (by decide) (.slice pb bs.length cb) _ _ (by rfl) ((unhide HZ).2.2.2.2.2.alloc _) _ [.slice pl k cl, .slice pa (k + 1) ca, .slice pq (k + 2) cq, .slice pr (k + 3) cr, .int .u8 (mm : Int)] (by rfl) rfl (lit_news W _ _ _ rfl) (one_five _ _ _ _ _ _ _ _ _ _ _ _ _) (by unfold maxLen; omega) (by omega) (by simp; omega) ?_; intro v2 w2 ho2 hg2 hat2; have R := WSt.kept (b := ⟨.slice pl k cl, .slice pa (k + 1) ca, .slice pq (k + 2) cq, .slice pr (k + 3) cr, k, mm⟩) (unhide HH) (unhide HZ).2.2.2.2.1 ho2 (grown_drew hg2) hat2 (unhide HZ).1.ful (unhide HZ).2.1 (unhide HZ).2.2.1 (unhide HZ).2.2.2.1 hn; obtain ⟨p2, d2, rfl, _⟩ := own_slice ho2; have y1 := R.1; have y2 := R.2.1; have HR := hide R.2.2; clear R ho2 hg2 hat2))
      all_goals go_wp2
      all_goals go_end0
      all_goals exact ⟨rfl, _, _, unhide HR, by simp⟩
end Lw
end Go.Proofs.YtolkjadklbchfaaGreatDoor
/- Walks of the law: made. -/
open Go Go.RowKit
namespace Go.Proofs.YtolkjadklbchfaaGreatDoor
namespace Lw
open Mem Rf Pr

theorem WSt.mid {base U : Nat} {W0 w w1 : World} {xv yv bv xv' : Value} {is : List It} {bs : List Bk} {i : It} {o : Obj} (h : WSt base U W0 w xv yv bv is bs)
    (hown : w1.ownsRow base 41 1 xv' (is.length + 1) (ptrs is ++ [.pointer (some ⟨i.X, 0, none⟩)])) (hg : (w.alloc o).grownBy w1 xv.ownBlock) (hat : xv'.ownBlock = xv.ownBlock ∨ xv'.ownBlock = some (w.alloc o).heap.size) :
    w1.cell? ⟨U, 0, none⟩ = some xv ∧ w1.frozen? ⟨U, 0, none⟩ = false ∧ (w1.setCell ⟨U, 0, none⟩ xv').heap[U]? = some (.cells #[xv', yv, bv] 32 (0, 0)) ∧ (w1.setCell ⟨U, 0, none⟩ xv').ownsRow base 52 2 yv is.length (refs is) ∧
      (w1.setCell ⟨U, 0, none⟩ xv').ownsRow base 41 1 xv' (is.length + 1) (ptrs is ++ [.pointer (some ⟨i.X, 0, none⟩)]) ∧
      (∀ k, xv'.ownBlock = some k → xv.ownBlock = some k ∨ w.heap.size < k) ∧ w.heap.size ≤ (w1.setCell ⟨U, 0, none⟩ xv').heap.size ∧
      (∀ k, k < w.heap.size → k ≠ U → xv.ownBlock ≠ some k → (w1.setCell ⟨U, 0, none⟩ xv').heap[k]? = w.heap[k]?) ∧ Below base W0 (w1.setCell ⟨U, 0, none⟩ xv') := by
  have hul := h.ult
  have hs1 := hg.size
  simp at hs1
  have hbase : base ≤ w.heap.size := by have := h.u0; omega
  have st1 : ∀ k, k < w.heap.size → xv.ownBlock ≠ some k → w1.heap[k]? = w.heap[k]? := by
    intro k hk hne
    rw [hg.block k (by simp; omega) (fun e => hne e.symm)]
    exact Below.heap_alloc _ _ _ hk
  have bU : w1.heap[U]? = some (.cells #[xv, yv, bv] 32 (0, 0)) := by
    rw [st1 U hul h.xu]
    exact h.blk
  have nlt : ∀ k, xv'.ownBlock = some k → xv.ownBlock = some k ∨ w.heap.size < k := by
    intro k hk
    rcases hat with q | q
    · exact .inl (q ▸ hk)
    · rw [q] at hk
      simp at hk
      exact .inr (by omega)
  have setU : ∀ k, k ≠ U → (w1.setCell ⟨U, 0, none⟩ xv').heap[k]? = w1.heap[k]? := fun k hk => Below.heap_setCell _ _ _ _ hk
  refine ⟨by rw [cell_of_row _ _ _ _ _ (0, 0) bU]; rfl, frozen_of_row _ _ _ _ _ bU, ?_, ?_, ?_, nlt, by simp; omega, ?_, ?_⟩
  · rw [heap_setCell_same w1 U 0 _ _ _ bU]
    rfl
  · refine own_same h.oy (fun k hk => ?_)
    have := (h.oy.lt k hk).2
    rw [setU k (fun e => h.yu (e ▸ hk)), st1 k this (fun e => h.xy k e hk)]
  · refine own_setCell_ne hown (fun g hgg e => ?_) _
    simp only at e
    subst e
    rcases nlt g hgg with r | r
    · exact h.xu r
    · omega
  · intro k hk hne hx
    rw [setU k hne, st1 k hk hx]
  · exact ((h.bel.alloc hbase o).grown hg (by simp; omega) (fun k hk => (h.ox.lt k hk).1)).setCell h.u0 _

theorem WSt.more {base U : Nat} {W0 w w1 w2 : World} {xv yv bv xv' yv' : Value} {is : List It} {bs : List Bk} {i : It} {o : Obj} (h : WSt base U W0 w xv yv bv is bs) (hi : ItOk (Mut U xv yv bv) w i) (hlen : is.length < 6)
    (bU : w1.heap[U]? = some (.cells #[xv', yv, bv] 32 (0, 0))) (ox : w1.ownsRow base 41 1 xv' (is.length + 1) (ptrs is ++ [.pointer (some ⟨i.X, 0, none⟩)]))
    (nx : ∀ k, xv'.ownBlock = some k → xv.ownBlock = some k ∨ w.heap.size < k) (hs : w.heap.size ≤ w1.heap.size) (st : ∀ k, k < w.heap.size → k ≠ U → xv.ownBlock ≠ some k → w1.heap[k]? = w.heap[k]?) (hb : Below base W0 w1)
    (hown : w2.ownsRow base 52 2 yv' (is.length + 1) (refs is ++ [i.V, i.M])) (hg : (w1.alloc o).grownBy w2 yv.ownBlock) (hat : yv'.ownBlock = yv.ownBlock ∨ yv'.ownBlock = some (w1.alloc o).heap.size) :
    w2.cell? ⟨U, 1, none⟩ = some yv ∧ w2.frozen? ⟨U, 1, none⟩ = false ∧ WSt base U W0 (w2.setCell ⟨U, 1, none⟩ yv') xv' yv' bv (is ++ [i]) bs := by
  have hul := h.ult
  have hs2 := hg.size
  simp at hs2
  have hbase : base ≤ w.heap.size := by have := h.u0; omega
  have ylt : ∀ k, yv.ownBlock = some k → k < w.heap.size := fun k hk => (h.oy.lt k hk).2
  have blt : ∀ k, bv.ownBlock = some k → k < w.heap.size := fun k hk => (h.ob.lt k hk).2
  have xlt : ∀ k, xv'.ownBlock = some k → k < w1.heap.size := fun k hk => (ox.lt k hk).2
  have st1 : ∀ k, k < w1.heap.size → yv.ownBlock ≠ some k → w2.heap[k]? = w1.heap[k]? := by
    intro k hk hne
    rw [hg.block k (by simp; omega) (fun e => hne e.symm)]
    exact Below.heap_alloc _ _ _ hk
  have bU2 : w2.heap[U]? = some (.cells #[xv', yv, bv] 32 (0, 0)) := by
    rw [st1 U (by omega) h.yu]
    exact bU
  have ny : ∀ k, yv'.ownBlock = some k → yv.ownBlock = some k ∨ w1.heap.size < k := by
    intro k hk
    rcases hat with q | q
    · exact .inl (q ▸ hk)
    · rw [q] at hk
      simp at hk
      exact .inr (by omega)
  have setU : ∀ k, k ≠ U → (w2.setCell ⟨U, 1, none⟩ yv').heap[k]? = w2.heap[k]? := fun k hk => Below.heap_setCell _ _ _ _ hk
  have hfr : Fr (Mut U xv yv bv) w (w2.setCell ⟨U, 1, none⟩ yv') := by
    refine ⟨by simp; omega, fun k hk hm => ?_⟩
    rw [setU k (fun e => hm (.inl e)), st1 k (by omega) (fun e => hm (.inr (.inr (.inl e)))), st k hk (fun e => hm (.inl e)) (fun e => hm (.inr (.inl e)))]
  have hM : ∀ k, k < w.heap.size → Mut U xv' yv' bv k → Mut U xv yv bv k := by
    intro k hk hm
    rcases hm with q | q | q | q
    · exact .inl q
    · rcases nx k q with r | r
      · exact .inr (.inl r)
      · omega
    · rcases ny k q with r | r
      · exact .inr (.inr (.inl r))
      · omega
    · exact .inr (.inr (.inr q))
  have nyU : yv'.ownBlock ≠ some U := by
    intro e
    rcases ny U e with r | r
    · exact h.yu r
    · omega
  have nxU : xv'.ownBlock ≠ some U := by
    intro e
    rcases nx U e with r | r
    · exact h.xu r
    · omega
  refine ⟨by rw [cell_of_row _ _ _ _ _ (0, 0) bU2]; rfl, frozen_of_row _ _ _ _ _ bU2, h.u0, ?_, ?_, ?_, ?_, ?_, ?_, ?_, nxU, nyU, h.bu, ?_, ?_, by simp; omega, ?_⟩
  · rw [heap_setCell_same w2 U 1 _ _ _ bU2]
    rfl
  · have e : ptrs (is ++ [i]) = ptrs is ++ [.pointer (some ⟨i.X, 0, none⟩)] := by simp [ptrs]
    rw [e, List.length_append]
    refine own_same ox (fun k hk => ?_)
    have := xlt k hk
    rw [setU k (fun e => nxU (e ▸ hk)), st1 k this (fun e => ?_)]
    rcases nx k hk with r | r
    · exact h.xy k r e
    · have := ylt k e; omega
  · have e : refs (is ++ [i]) = refs is ++ [i.V, i.M] := by simp [refs]
    rw [e, List.length_append]
    refine own_setCell_ne hown (fun g hgg e => ?_) _
    simp only at e
    subst e
    exact nyU hgg
  · refine own_same h.ob (fun k hk => ?_)
    have := blt k hk
    rw [setU k (fun e => h.bu (e ▸ hk)), st1 k (by omega) (fun e => h.yb k e hk), st k this (fun e => h.bu (e ▸ hk)) (fun e => h.xb k e hk)]
  · intro k hk e
    rcases ny k e with r | r
    · rcases nx k hk with q | q
      · exact h.xy k q r
      · have := ylt k r; omega
    · have := xlt k hk; omega
  · intro k hk e
    rcases nx k hk with q | q
    · exact h.xb k q e
    · have := blt k e; omega
  · intro k hk e
    rcases ny k hk with q | q
    · exact h.yb k q e
    · have := blt k e; omega
  · intro c hc
    rcases List.mem_append.1 hc with q | q
    · exact (h.its c q).fr hfr hM
    · simp at q
      subst q
      exact hi.fr hfr hM
  · exact fun b hb => (h.bok b hb).fr hfr hM
  · exact ((hb.alloc (by omega) o).grown hg (by simp; omega) (fun k hk => (h.oy.lt k hk).1)).setCell h.u0 _

theorem ptrs_len (is : List It) : (ptrs is).length = is.length := by simp [ptrs]

set_option maxHeartbeats 1000000 in
theorem made_err (U : Nat) (V M : Value) (q : Int) (w : World) (hq : (q == 0) = false) :
    Calls Tryz.prog 13 #[.pointer (some ⟨U, 0, none⟩), .pointer none, .int .i64 q, V, M, .int .i64 q] w fun e w' => e = .returned (.bool true) ∧ w' = w := by
  have hq2 : (q != 0) = true := by simp [bne, hq]
  have hq3 : (q != q) = false := by simp
  go_enter Tryz.func13, Tryz.ntmps13
  go_wp2
  go_ret
  exact ⟨rfl, rfl⟩

theorem one_two (a b : Option Addr) (n1 c1 n2 c2 : Nat) : ∀ u ∈ [Value.slice a n1 c1, .slice b n2 c2], u.oneCell' = true := by
  intro u hu
  simp at hu
  rcases hu with rfl | rfl <;> rfl
theorem one_ptr (a : Option Addr) : ∀ u ∈ [Value.pointer a], u.oneCell' = true := by
  intro u hu
  simp at hu
  subst hu
  rfl

theorem mid_cell {W : World} {U : Nat} {a b c : Value} (h : W.heap[U]? = some (.cells #[a, b, c] 32 (0, 0))) : W.cell? ⟨U, 1, none⟩ = some b := by
  rw [cell_of_row _ _ _ _ _ (0, 0) h]
  rfl

set_option maxHeartbeats 2000000 in
theorem made_ok (base U : Nat) (W0 w : World) (xv yv bv : Value) (is : List It) (bs : List Bk) (i : It) (h : WSt base U W0 w xv yv bv is bs) (hi : ItOk (Mut U xv yv bv) w i) :
    Calls Tryz.prog 13 #[.pointer (some ⟨U, 0, none⟩), .pointer (some ⟨i.X, 0, none⟩), .int .i64 0, i.V, i.M, .int .i64 0] w fun e w' => e = .returned (.bool true) ∧ ∃ xv' yv' is', WSt base U W0 w' xv' yv' bv is' bs := by
  obtain ⟨c0, c1, _, hfz⟩ := h.cells
  obtain ⟨pv, cv, hV, _⟩ := hi.rv.1.form
  obtain ⟨pm, cm, hM, _⟩ := hi.rm.1.form
  obtain ⟨px, cx, rfl, hcx⟩ := own_slice h.ox
  obtain ⟨py, cy, rfl, hcy⟩ := own_slice h.oy
  have hl := h.ilen
  have hul := h.ult
  have hbase : base ≤ w.heap.size := by have := h.u0; omega
  have HH := hide h
  have HI := hide hi
  clear h hi
  by_cases h6 : is.length < 6
  · rw [U64_len] at hV
    generalize hgl : (I64 (NI i.ms)).length = ml at *
    clear hgl
    have HVM := And.intro (hide hV) (hide hM)
    rw [hV, hM]
    clear hV hM
    go_enter Tryz.func13, Tryz.ntmps13
    go_wp2_with (first
      | (at_builtin; refine wpList_appN _ rfl (.tmp 37) (.tmp 39) 26 rfl base 41 (.pointer none) 1 8 Tryz.underlying26 Ty.pindex rfl (by decide) (.slice px is.length cx) _ _ rfl ((unhide HH).ox.alloc _) _ [.pointer (some ⟨i.X, 0, none⟩)] rfl rfl (lit_news w _ _ _ rfl) (one_ptr _) (by unfold maxLen; omega) (by omega) (by simp; omega) ?_; intro v1 w1 ho1 hg1 hat1; have R := WSt.mid (i := i) (unhide HH) ho1 hg1 hat1; obtain ⟨p1, d1, rfl, _⟩ := own_slice ho1; have y1 := R.1; have y2 := R.2.1; have y3 := mid_cell R.2.2.1; have hws := R.2.2.2.2.2.2.1; have HR := hide R.2.2; clear R ho1 hg1 hat1)
      | (at_builtin; refine wpList_appN _ rfl (.tmp 47) (.tmp 51) 27 rfl base 52 (.agg #[.slice none 0 0, .slice none 0 0]) 2 48 Tryz.underlying27 Ty.rindex rfl (by decide) (.slice py is.length cy) _ _ rfl ((unhide HR).2.1.alloc _) ⟨w1.heap.size, 0, none⟩ [.slice pv i.vs.length cv, .slice pm ml cm] rfl rfl (lit_news _ _ _ _ (by simp)) (one_two _ _ _ _ _ _) (by unfold maxLen; omega) (by omega) (by simp at hws; simp; omega) ?_; intro v2 w2 ho2 hg2 hat2; have R := WSt.more (unhide HH) (unhide HI) h6 (unhide HR).1 (unhide HR).2.2.1 (unhide HR).2.2.2.1 (unhide HR).2.2.2.2.1 (unhide HR).2.2.2.2.2.1 (unhide HR).2.2.2.2.2.2 (by rw [unhide HVM.1, unhide HVM.2]; exact ho2) hg2 hat2; obtain ⟨p2, d2, rfl, _⟩ := own_slice ho2; have z1 := R.1; have z2 := R.2.1; have HR2 := hide R.2.2; clear R ho2 hg2 hat2))
    go_ret
    exact ⟨rfl, _, _, _, unhide HR2⟩
  · go_enter Tryz.func13, Tryz.ntmps13
    go_wp2
    go_ret
    exact ⟨rfl, _, _, _, unhide HH⟩
end Lw
end Go.Proofs.YtolkjadklbchfaaGreatDoor
/- Walks of the law: encoded. -/
open Go Go.RowKit
namespace Go.Proofs.YtolkjadklbchfaaGreatDoor
namespace Lw
open Mem Rf Pr

theorem refs_at (is : List It) (k : Nat) (h : k < is.length) : (refs is)[k * 2]? = some is[k].V ∧ (refs is)[k * 2 + 1]? = some is[k].M := by
  induction is generalizing k with
  | nil => simp at h
  | cons b l ih =>
    have e : refs (b :: l) = [b.V, b.M] ++ refs l := by simp [refs]
    cases k with
    | zero => rw [e]; simp
    | succ i =>
      have := ih i (by simpa using h)
      rw [e]
      have q : ∀ j, j < 2 → ([b.V, b.M] ++ refs l)[(i + 1) * 2 + j]? = (refs l)[i * 2 + j]? := by
        intro j hj
        rw [List.getElem?_append_right (by simp; omega)]
        congr 1
        simp
        omega
      have q0 := q 0 (by omega)
      simp only [Nat.add_zero] at q0
      rw [q0, q 1 (by omega)]
      simpa using this
theorem ptrs_at (is : List It) (k : Nat) (h : k < is.length) : (ptrs is)[k]? = some (.pointer (some ⟨is[k].X, 0, none⟩)) := by simp [ptrs, h]

theorem own_form2 {w : World} {base : Nat} {e : TypeId} {size : Nat} {v : Value} {n : Nat} {xs : List Value} (h : w.ownsRow base e size v n xs) (hn : 0 < n) :
    ∃ g cap, v = .slice (some ⟨g, 0, none⟩) n cap ∧ n ≤ cap ∧ base ≤ g ∧ g < w.heap.size ∧ (∀ j u, xs[j]? = some u → w.cell? ⟨g, j, none⟩ = some u) := by
  rcases h.2 with ⟨_, h0⟩ | ⟨g, cap, cur, rfl, hbg, hgg, hnc, hcm, hcs, ht⟩
  · omega
  · refine ⟨g, cap, rfl, hnc, hbg, (Array.getElem?_eq_some_iff.1 hgg).1, ?_⟩
    intro j u hu
    have hj : j < n * size := by rw [← h.1]; exact (List.getElem?_eq_some_iff.1 hu).1
    rw [h.cellAt j hj, hu]

theorem encode_len (vs ms : List Nat) : 14 ≤ (Sp.encode vs ms).length := by
  unfold Sp.encode
  rw [List.length_append, Sp.sealed_len]
  have : (Sp.head (Sp.widthOf vs) vs.length ms.length).length = 10 := rfl
  omega
theorem encode_small {vs ms : List Nat} (hf : Fits vs ms) : (Sp.encode vs ms).length ≤ 10000000 := by
  have hl := hf.len
  have hm := hf.mlen
  have s1 := layers_small hf.big (by omega : vs.length ≤ 1000)
  have s2 := brackets_small (by omega : vs.length ≤ 1000)
  have s3 := marks_small (n := vs.length) (ms := ms) (by omega) (by omega)
  unfold Sp.encode
  simp only [List.length_append, Sp.sealed_len, Sp.pack_len]
  have : (Sp.head (Sp.widthOf vs) vs.length ms.length).length = 10 := rfl
  omega

theorem conv_bytes {P : Program} (w : World) (src e dst : TypeId) (g cap : Nat) (xs : List Nat) (hs : P.underlying src = some (.slice e)) (he : P.underlying e = some (.int .u8)) (hd : P.underlying dst = some .string) (hc : ∀ j u, (By xs)[j]? = some u → w.cell? ⟨g, j, none⟩ = some u) :
    (convert src dst (.slice (some ⟨g, 0, none⟩) xs.length cap)).run P w = .ok (.string (strOfNums (xs.map fun (x : Nat) => (x : Int)))) w := by
  refine run_convert_bytes_arg w src e hs he g 0 xs.length cap _ (by simp) ?_ dst hd
  intro i hi
  rw [Nat.zero_add]
  refine hc i _ ?_
  rw [By_at _ _ hi]
  simp [List.getD, hi]

set_option maxHeartbeats 2000000 in
theorem encoded_any (base U : Nat) (W0 w : World) (xv yv bv : Value) (is : List It) (bs : List Bk) (k : Nat) (h : WSt base U W0 w xv yv bv is bs) (hk : k < is.length) (hbs : bs.length ≤ 1300000000000) (hT : Tab W0) (hb0 : 2 ≤ base) :
    Calls Tryz.prog 10 #[.pointer (some ⟨U, 0, none⟩), .int .i64 k] w fun e w' => e = .returned (.bool true) ∧ ∃ bv' bs', WSt base U W0 w' xv yv bv' is bs' ∧ bs'.length = bs.length + 1 := by
  obtain ⟨c0, c1, _, _⟩ := h.cells
  have hul := h.ult
  have hl6 := h.ilen
  obtain ⟨gx, cx, rfl, hcx, _, hgx, hxc⟩ := own_form2 h.ox (by omega)
  obtain ⟨gy, cy, rfl, hcy, _, hgy, hyc⟩ := own_form2 h.oy (by omega)
  have hxk := hxc k _ (ptrs_at is k hk)
  have hyk := hyc _ _ (refs_at is k hk).1
  have hyk2 := hyc _ _ (refs_at is k hk).2
  have hit := h.its is[k] (List.getElem_mem hk)
  obtain ⟨lo, hi, hidx, _, _⟩ := hit.idx
  have HE := hide (encode_any lo hi _ _ _ w hidx hit.fit (hT.below h.bel (by omega)))
  have HH := hide h
  have HIT := hide hit
  obtain ⟨pv, cv, hV, _⟩ := hit.rv.1.form
  obtain ⟨pm, cm, hM, _⟩ := hit.rm.1.form
  rw [U64_len] at hV
  rw [NI_len] at hM
  rw [hV] at hyk
  rw [hM] at hyk2
  have RV := hide (show Rd w.heap.size w (.slice pv is[k].vs.length cv) (U64 is[k].vs) by rw [← hV]; exact hit.rv.1)
  have RM := hide (show Rd w.heap.size w (.slice pm is[k].ms.length cm) (I64 (NI is[k].ms)) by rw [← hM]; exact hit.rm.1)
  have hfit := hit.fit
  have hel := encode_len is[k].vs is[k].ms
  have hes := encode_small hfit
  have HF := hide hfit
  clear h hit hidx hxc hyc hV hM hfit
  generalize is[k].vs = vs at *
  generalize is[k].ms = ms at *
  generalize is[k].X = X at *
  go_enter Tryz.func10, Tryz.ntmps10
  go_wp2_with fail
  refine (unhide HE).mono ?_
  rintro e w1 ⟨v1, rfl, o1, b1⟩
  have d1 := (b1.cell (p := ⟨U, 1, none⟩) hul).trans c1
  have d2 := (b1.cell (p := ⟨gy, k * 2, none⟩) hgy).trans hyk
  have d3 := (b1.cell (p := ⟨gy, k * 2 + 1, none⟩) hgy).trans hyk2
  have s1 := b1.size
  have Q1 := hide (And.intro o1 b1)
  clear o1 b1 HE c0 c1 hxk hyk hyk2
  go_wp2_with fail
  go_region_held3 (fun w' => w'.cell? ⟨U, 1, none⟩ = some (.slice (some ⟨gy, 0, none⟩) is.length cy) ∧ w'.cell? ⟨gy, k * 2, none⟩ = some (.slice pv vs.length cv) ∧ w'.cell? ⟨gy, k * 2 + 1, none⟩ = some (.slice pm ms.length cm)) (go_keep)
    ((go_at_call 16; (refine (Rf.encode_any pv _ cv vs pm _ cm ms w.heap.size w1.drew (rd_drew ((unhide RV).below (unhide Q1).2)) (rd_drew ((unhide RM).below (unhide Q1).2)) s1 (unhide HF).big (unhide HF).mlt (by have := (unhide HF).len; omega) (by have := (unhide HF).len; have := (unhide HF).mlen; omega)).mono ?_); rintro e w2 ⟨v2, rfl, o2, b2⟩; have b3 : Below w1.heap.size w1 w2 := ⟨b2.os, b2.tape, b2.output, b2.size, b2.block⟩; have t1 := (b3.cell (p := ⟨U, 1, none⟩) (by simp only; omega)).trans d1; have t2 := (b3.cell (p := ⟨gy, k * 2, none⟩) (by simp only; omega)).trans d2; have t3 := (b3.cell (p := ⟨gy, k * 2 + 1, none⟩) (by simp only; omega)).trans d3))
  have oL := own_later (unhide Q1).1 b3
  have bL : Below w.heap.size w w2 := (unhide Q1).2.trans (b3.mono s1)
  rw [By_len] at oL o2
  obtain ⟨g1, e1, rfl, he1, _, _, hc1, _⟩ := own_form oL (by omega)
  obtain ⟨g2, e2, rfl, he2, _, _, hc2, _⟩ := own_form o2 (by omega)
  have cv1 := conv_bytes (P := Tryz.prog) w2 49 5 9 g1 e1 (Sp.encode vs ms) Tryz.underlying49 Tryz.underlying5 Tryz.underlying9 hc1
  have cv2 := conv_bytes (P := Tryz.prog) w2 49 5 9 g2 e2 (Sp.encode vs ms) Tryz.underlying49 Tryz.underlying5 Tryz.underlying9 hc2
  have HL := hide (And.intro oL bL)
  clear oL bL o2 b2 b3 t1 t2 t3 d1 d2 d3 hc1 hc2
  generalize strOfNums ((Sp.encode vs ms).map fun (x : Nat) => (x : Int)) = S at *
  go_wp2_with fail
  refine (keep_any base U W0 w w2 _ _ bv is bs (unhide HH) (unhide HL).2 _ _ _ (unhide HL).1 (by omega) hbs).mono ?_
  rintro e w3 ⟨rfl, bv', bs', hst, hlen⟩
  have HS := hide (And.intro hst hlen)
  clear hst hlen cv1 cv2
  go_wp2
  go_ret
  exact ⟨rfl, bv', bs', unhide HS⟩
end Lw
end Go.Proofs.YtolkjadklbchfaaGreatDoor
