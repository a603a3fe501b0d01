/- Walks of the law: keep. -/
import Derived.Test.YtmefkcbchpjeoaaDoorLwC
import Derived.Deep.DrawnRows
open Go Go.RowKit
namespace Go.Proofs.YtmefkcbchpjeoaaDoor
namespace Lw
open Mem Rf Pr

theorem rep_step {n m k : Nat} {xs : List Nat} (hx : xs.length = n) (hk : k < n) : By (List.replicate (k + 1) m ++ xs.drop (k + 1)) = (By (List.replicate k m ++ xs.drop k)).set k (.int .u8 (m : Int)) := by
  apply List.ext_getElem?
  intro j
  rw [List.getElem?_set]
  simp only [By, List.getElem?_map, List.length_map, List.length_append, List.length_replicate, List.length_drop]
  by_cases hj : k = j
  · subst hj
    rw [List.getElem?_append_left (by simp), List.getElem?_replicate, if_pos (by omega), if_pos rfl, if_pos (by omega)]
    rfl
  · rw [if_neg hj]
    by_cases hjk : j < k
    · rw [List.getElem?_append_left (by simp; omega), List.getElem?_append_left (by simp; omega), List.getElem?_replicate, List.getElem?_replicate, if_pos (by omega), if_pos (by omega)]
    · rw [List.getElem?_append_right (by simp; omega), List.getElem?_append_right (by simp; omega), List.getElem?_drop, List.getElem?_drop]
      simp only [List.length_replicate]
      congr 2
      omega

/-- What keep has while it makes the longer lists. -/
structure KSt (lo : Nat) (w W : World) (XB : Nat) (C : Array Value) (l : Value) (n m : Nat) : Prop where
  blk : W.heap[XB]? = some (.cells C 56 (0, 0))
  ful : Fu W lo l n m
  nx : l.ownBlock ≠ some XB
  bel : Below lo w W
  lx : lo ≤ XB

theorem KSt.start {lo : Nat} {w wr : World} {l : Value} {n m : Nat} (C : Array Value) (hf : Fu wr lo l n m) (hb : Below lo w wr) (hlo : lo ≤ wr.heap.size) : KSt lo w (wr.alloc (.cells C 56)) wr.heap.size C l n m := by
  refine ⟨heap_alloc_new _ _, hf.alloc _, ?_, hb.alloc hlo _, hlo⟩
  intro e
  have := (hf.lt _ e).2
  omega

theorem KSt.cell {lo : Nat} {w W : World} {XB : Nat} {C : Array Value} {l : Value} {n m : Nat} (h : KSt lo w W XB C l n m) (j : Nat) (u : Value) (hu : C[j]? = some u) : W.cell? ⟨XB, j, none⟩ = some u ∧ W.frozen? ⟨XB, j, none⟩ = false :=
  ⟨by rw [cell_of_row _ _ _ _ _ (0, 0) h.blk]; exact hu, frozen_of_row _ _ _ _ _ h.blk⟩

theorem KSt.app {lo : Nat} {w W W1 : World} {XB : Nat} {C : Array Value} {l v' : Value} {n m q : Nat} {o : Obj} (h : KSt lo w W XB C l n m) (hlo : lo ≤ W.heap.size) (hfu : Fu W1 lo v' q m) (hg : (W.alloc o).grownBy W1 l.ownBlock) (hat : v'.ownBlock = l.ownBlock ∨ v'.ownBlock = some (W.alloc o).heap.size)
    (hk : ∀ b k, Fu (W.alloc o) lo b k m → Fu W1 lo b k m) (j : Nat) :
    KSt lo w W1 XB C l n m ∧ v'.ownBlock ≠ some XB ∧ KSt lo w (W1.setCell ⟨XB, j, none⟩ v') XB (C.setIfInBounds j v') l n m ∧ Fu (W1.setCell ⟨XB, j, none⟩ v') lo v' q m ∧
      (∀ b k, Fu W lo b k m → b.ownBlock ≠ some XB → Fu (W1.setCell ⟨XB, j, none⟩ v') lo b k m) ∧ W.heap.size ≤ (W1.setCell ⟨XB, j, none⟩ v').heap.size := by
  have hx := (Array.getElem?_eq_some_iff.1 h.blk).1
  have hs := hg.size
  simp at hs
  have b1 : W1.heap[XB]? = some (.cells C 56 (0, 0)) := by
    rw [hg.block XB (by simp; omega) (fun e => h.nx e.symm), Below.heap_alloc _ _ _ hx]
    exact h.blk
  have hv : v'.ownBlock ≠ some XB := by
    intro e
    rcases hat with q | q
    · exact h.nx (q ▸ e)
    · rw [q] at e
      simp at e
      omega
  have hb1 : Below lo w W1 := (h.bel.alloc hlo o).grown hg (by simp; omega) (fun k hk => (h.ful.lt k hk).1)
  have k1 : KSt lo w W1 XB C l n m := ⟨b1, hk l n (h.ful.alloc o), h.nx, hb1, h.lx⟩
  have ne : ∀ {b : Value}, b.ownBlock ≠ some XB → ∀ g, b.ownBlock = some g → g ≠ XB := fun hb g hg e => hb (e ▸ hg)
  refine ⟨k1, hv, ⟨heap_setCell_same W1 XB j C _ v' b1, own_setCell_ne k1.ful (ne h.nx) _, h.nx, hb1.setCell h.lx _, h.lx⟩, own_setCell_ne hfu (ne hv) _, ?_, by simp; omega⟩
  intro b k hb hne
  exact own_setCell_ne (hk b k (hb.alloc o)) (ne hne) _

theorem rep_news (W : World) (j H : Nat) (x : Value) (t : TypeId) (hH : W.heap.size = H) : ∀ q u, (List.replicate j x)[q]? = some u → (W.alloc (.cells (List.replicate j x).toArray t)).cell? ((⟨H, 0, none⟩ : Addr).add q) = some u :=
  lit_news W (List.replicate j x) H t hH

theorem one_five (a b c d : Option Addr) (n1 c1 n2 c2 n3 c3 n4 c4 : Nat) (m : Int) : ∀ u ∈ [Value.slice a n1 c1, .slice b n2 c2, .slice c n3 c3, .slice d n4 c4, .int .u8 m], u.oneCell' = true := by
  intro u hu
  simp at hu
  rcases hu with rfl | rfl | rfl | rfl | rfl <;> rfl

set_option maxHeartbeats 2000000 in
theorem keep_any (base U : Nat) (W0 w0 w : World) (xv yv bv : Value) (is : List It) (bs : List Bk) (h : WSt base U W0 w0 xv yv bv is bs) (hb : Below w0.heap.size w0 w) (l : Value) (n : Nat) (xs : List Nat) (hl : w.ownsRow w0.heap.size 5 1 l n (By xs)) (hn : n ≤ 1000000000) (hbs : bs.length ≤ 1300000000000) :
    Calls Tryd.prog 18 #[.pointer (some ⟨U, 2, none⟩), l] w fun e w' => e = .returned (.tuple #[]) ∧ ∃ bv' bs', WSt base U W0 w' xv yv bv' is bs' ∧ bs'.length = bs.length + 1 := by
  have hul := h.ult
  have hc : w.cell? ⟨U, 2, none⟩ = some bv := (hb.cell (p := ⟨U, 2, none⟩) hul).trans h.cells.2.2.1
  obtain ⟨pb, cb, rfl, hcb⟩ := own_slice h.ob
  obtain ⟨pl, cl, rfl, hcl⟩ := own_slice hl
  have hxl : xs.length = n := by have := hl.1; rw [By_len] at this; omega
  obtain ⟨mm, hmm⟩ : ∃ mm, mm = 1 + bs.length % 255 := ⟨_, rfl⟩
  have hm1 : (1 + (bs.length : Int) % 255) = (mm : Int) := by omega
  have hm2 : mm ≤ 255 := by omega
  have hlo := hb.size
  have HH := hide h
  have HB := hide hb
  have HL := hide hl
  have HX := hide hxl
  clear h hb hl hxl hmm
  go_enter Tryd.func18, Tryd.ntmps18
  go_wp2
  go_loopw [5] (fun ii wr => ∃ k : Nat, k ≤ n ∧ ii = .int .i64 k ∧ wr.ownsRow w0.heap.size 5 1 (.slice pl n cl) n (By (List.replicate k mm ++ xs.drop k)) ∧ Below w0.heap.size w wr) (fun ii _ => n - (intOf ii).toNat)
  case atStart => exact ⟨0, Nat.zero_le _, rfl, by simpa using unhide HL, Below.refl _ _⟩
  case round =>
    obtain ⟨k, hk, rfl, hown, hbel⟩ := hrel
    clear hc
    by_cases hlt : k < n
    · obtain ⟨g, cap, he, hcap, hbg, hg, hcells, hfr⟩ := own_form hown (by omega)
      simp only [Value.slice.injEq] at he
      obtain ⟨rfl, _, rfl⟩ := he
      have hxk : (By (List.replicate k mm ++ xs.drop k))[k]? = some (.int .u8 ((xs[k]'(by rw [unhide HX]; exact hlt) : Nat) : Int)) := by
        rw [By_at _ _ (by simp; rw [unhide HX]; omega)]
        simp
      have hck := hcells k _ hxk
      have hfk := hfr k
      have HST := hide (And.intro hown hbel)
      have HRS := hide (rep_step (m := mm) (unhide HX) hlt)
      clear hcells hfr hxk hown hbel
      go_wp2
      go_roundw
      case rel =>
        refine ⟨k + 1, by omega, by go_num, ?_, (unhide HST).2.setCell hbg _⟩
        rw [unhide HRS]
        exact ((unhide HST).1.stored k _).1
      case measure => simp [intOf]; omega
    · have he : k = n := by omega
      subst he
      have hfu : Fu wr w0.heap.size (.slice pl k cl) k mm := by
        have e : xs.drop k = [] := List.drop_eq_nil_of_le (by rw [unhide HX]; exact Nat.le_refl _)
        rw [e, List.append_nil] at hown
        exact hown
      have hwr : w0.heap.size ≤ wr.heap.size := Nat.le_trans hlo hbel.size
      have K0 := hide (KSt.start #[.slice pl k cl, .slice none 0 0, .slice none 0 0, .slice none 0 0, .int .u8 (mm : Int)] hfu hbel hwr)
      clear hown hfu hbel
      go_wp2_with (first
        | (at_builtin; refine wpList_app_full _ rfl (.tmp 28) (.tmp 30) 49 rfl w0.heap.size Tryd.underlying49 Ty.u8 (.slice pl k cl) k mm rfl ((unhide K0).ful.alloc _) ⟨wr.heap.size + 1, 0, none⟩ 1 1 rfl (rep_news _ 1 _ _ _ (by simp)) (by omega) (by simp; omega) ?_; intro a1 W1 hf1 hg1 hat1 hk1; have A1 := KSt.app (unhide K0) (by simp; omega) hf1 hg1 hat1 hk1 1; have q1 := (A1.1.cell 1 _ rfl).1; have r1 := (A1.1.cell 1 _ rfl).2; have hw1 := A1.2.2.2.2.2; obtain ⟨pa, ca, rfl, _⟩ := own_slice hf1; have HA1 := hide A1; clear A1 hf1 hg1 hat1 hk1)
        | (at_builtin; refine wpList_app_full _ rfl (.tmp 33) (.tmp 36) 49 rfl w0.heap.size Tryd.underlying49 Ty.u8 (.slice pl k cl) k mm rfl ((unhide HA1).2.2.1.ful.alloc _) ⟨W1.heap.size, 0, none⟩ 2 2 rfl (rep_news _ 2 _ _ _ (by simp)) (by omega) (by simp at hw1; simp; omega) ?_; intro a2 W2 hf2 hg2 hat2 hk2; have A2 := KSt.app (unhide HA1).2.2.1 (by simp at hw1; simp; omega) hf2 hg2 hat2 hk2 2; have q2 := (A2.1.cell 2 _ rfl).1; have r2 := (A2.1.cell 2 _ rfl).2; have hw2 := A2.2.2.2.2.2; obtain ⟨pq, cq, rfl, _⟩ := own_slice hf2; have HA2 := hide A2; clear A2 hf2 hg2 hat2 hk2)
        | (at_builtin; refine wpList_app_full _ rfl (.tmp 39) (.tmp 43) 49 rfl w0.heap.size Tryd.underlying49 Ty.u8 (.slice pl k cl) k mm rfl ((unhide HA2).2.2.1.ful.alloc _) ⟨W2.heap.size, 0, none⟩ 3 3 rfl (rep_news _ 3 _ _ _ (by simp)) (by omega) (by simp at hw1 hw2; simp; omega) ?_; intro a3 W3 hf3 hg3 hat3 hk3; have A3 := KSt.app (unhide HA2).2.2.1 (by simp at hw1 hw2; simp; omega) hf3 hg3 hat3 hk3 3; have q3 := (A3.1.cell 3 _ rfl).1; have r3 := (A3.1.cell 3 _ rfl).2; have hw3 := A3.2.2.2.2.2; obtain ⟨pr, cr, rfl, _⟩ := own_slice hf3; have HA3 := hide A3; clear A3 hf3 hg3 hat3 hk3))
      have F0 := (unhide HA3).2.2.1
      have fa := (unhide HA3).2.2.2.2.1 _ _ ((unhide HA2).2.2.2.2.1 _ _ (unhide HA1).2.2.2.1 (unhide HA1).2.1) (unhide HA1).2.1
      have fb := (unhide HA3).2.2.2.2.1 _ _ (unhide HA2).2.2.2.1 (unhide HA2).2.1
      have fc := (unhide HA3).2.2.2.1
      clear HA1 HA2 HA3 q1 q2 q3 r1 r2 r3 K0
      generalize hWW : W3.setCell ⟨wr.heap.size, 3, none⟩ (.slice pr (k + 3) cr) = W at *
      clear hWW
      have x0 := (F0.cell 0 _ rfl).1
      have x1 := (F0.cell 1 _ rfl).1
      have x2 := (F0.cell 2 _ rfl).1
      have x3 := (F0.cell 3 _ rfl).1
      have x4 := (F0.cell 4 _ rfl).1
      have hbW : Below w0.heap.size w0 W := (unhide HB).trans F0.bel
      have hu2 : W.cell? ⟨U, 2, none⟩ = some (.slice pb bs.length cb) := (hbW.cell (p := ⟨U, 2, none⟩) hul).trans (unhide HH).cells.2.2.1
      have hob := own_later (unhide HH).ob hbW
      have hW0 := hbW.size
      have hbase : base ≤ w0.heap.size := by have := (unhide HH).u0; omega
      have HZ := hide (And.intro F0 (And.intro fa (And.intro fb (And.intro fc (And.intro hbW hob)))))
      clear F0 fa fb fc hbW hob hw1 hw2 hw3
      have hca : ∀ o, (W.alloc o).cell? ⟨U, 2, none⟩ = some (.slice pb bs.length cb) := fun o => (((Below.refl W.heap.size W).alloc (Nat.le_refl _) o).cell (p := ⟨U, 2, none⟩) (World.block_lt_of_cell? _ _ hu2)).trans hu2
      go_region_law (first
        | (refine step_appN _ (by rfl) (.tmp 50) (.tmp 52) 28 (by rfl) base 56 (.agg #[.slice none 0 0, .slice none 0 0, .slice none 0 0, .slice none 0 0, .int .u8 0]) 5 104 Tryd.underlying28 Ty.bk rfl (by decide) (.slice pb bs.length cb) _ _ (by rfl) ((unhide HZ).2.2.2.2.2.alloc _) _ [.slice pl k cl, .slice pa (k + 1) ca, .slice pq (k + 2) cq, .slice pr (k + 3) cr, .int .u8 (mm : Int)] (by rfl) rfl (lit_news W _ _ _ rfl) (one_five _ _ _ _ _ _ _ _ _ _ _ _ _) (by unfold maxLen; omega) (by omega) (by simp; omega) ?_; intro v2 w2 ho2 hg2 hat2; have R := WSt.kept (b := ⟨.slice pl k cl, .slice pa (k + 1) ca, .slice pq (k + 2) cq, .slice pr (k + 3) cr, k, mm⟩) (unhide HH) (unhide HZ).2.2.2.2.1 ho2 (grown_drew hg2) hat2 (unhide HZ).1.ful (unhide HZ).2.1 (unhide HZ).2.2.1 (unhide HZ).2.2.2.1 hn; obtain ⟨p2, d2, rfl, _⟩ := own_slice ho2; have y1 := R.1; have y2 := R.2.1; have HR := hide R.2.2; clear R ho2 hg2 hat2))
      all_goals go_wp2
      all_goals go_end0
      all_goals exact ⟨rfl, _, _, unhide HR, by simp⟩
end Lw
end Go.Proofs.YtmefkcbchpjeoaaDoor
