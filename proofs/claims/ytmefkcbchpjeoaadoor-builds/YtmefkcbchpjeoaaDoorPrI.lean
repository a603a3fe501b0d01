/- Walks of the program: head, Encode. -/
import Derived.Test.YtmefkcbchpjeoaaDoorPrA
import Derived.Test.YtmefkcbchpjeoaaDoorPrH
import Derived.Deep.RegionHeld3
import Derived.Deep.DrawnRows
open Go Go.RowKit
namespace Go.Proofs.YtmefkcbchpjeoaaDoor
namespace Pr
open Mem Rf

/-- A literal of bytes turned into bytes: the block is marked behind its end. -/
theorem run_conv_lit {P : Program} (w : World) (C : Array Value) (t e : TypeId) (l c : Nat) (ht : P.underlying t = some (.slice e)) (he : P.underlying e = some (.int .u8)) :
    (convert t t (.slice (some ⟨w.heap.size, 0, none⟩) l c)).run P (w.alloc (.cells C e)) = .ok (.slice (some ⟨w.heap.size, 0, none⟩) l c) (w.alloc (.cells C e (C.size, C.size + 1))) := by
  have hsh : (w.alloc (.cells C e)).shape? w.heap.size = some (e, C.size) := by
    unfold World.shape?
    rw [heap_alloc_new]
  have hm : ∀ (a : Array Obj) (x : Obj) (f : Obj → Obj), (a.push x).modify a.size f = a.push (f x) := by
    intro a x f
    apply Array.ext
    · simp
    · intro i h1 h2
      simp only [Array.getElem_modify, Array.getElem_push]
      by_cases h : a.size = i
      · subst h
        simp
      · have hi : i < a.size := by simp at h1; omega
        simp [h, hi]
  have hfr : (w.alloc (.cells C e)).freeze ⟨w.heap.size, C.size, none⟩ 1 = w.alloc (.cells C e (C.size, C.size + 1)) := by
    unfold World.freeze
    rw [if_neg (by decide)]
    show ({ w.alloc (.cells C e) with heap := (w.heap.push (.cells C e)).modify w.heap.size _ } : World) = _
    rw [hm]
    rfl
  simp [convert, run_underlying ht, run_underlying he, markStringish, hsh, hfr]

/-- append where there is no room, onto whatever reads: a new row. -/
theorem wpList_app_new {P : Program} (w : World) {ops : Array Oper} {rest : List Oper} {o : Oper} {a : Act} {Q : Exit → Act → World → Prop} (hgd : o.guard = none) (s x : Operand) (t : TypeId)
    (ho : o.op = .call { callee := .builtin .append, args := #[s, x], argTypes := #[t, t] })
    (e : TypeId) (z : Value) (bytes : Nat) (ht : P.underlying t = some (.slice e)) (hinfo : (P.info? e).map (fun i => (i.zero, i.size, i.bytes)) = some (some z, 1, bytes)) (hzs : z.cells.size = 1)
    (b0 o0 : Nat) (xs : List Value) (cap : Nat) (hs : a.eval s = .slice (some ⟨b0, o0, none⟩) xs.length cap) (hold : ∀ j u, xs[j]? = some u → w.cell? ⟨b0, o0 + j, none⟩ = some u)
    (b1 o1 : Nat) (ys : List Value) (c : Nat) (hx : a.eval x = .slice (some ⟨b1, o1, none⟩) ys.length c) (hnew : ∀ j u, ys[j]? = some u → w.cell? ⟨b1, o1 + j, none⟩ = some u)
    (hroom : cap < xs.length + ys.length) (h63 : xs.length + ys.length ≤ maxLen) (hbytes : (xs.length + ys.length) * bytes ≤ 140737488355328)
    (h : ∀ v' w', w'.ownsRow w.heap.size e 1 v' (xs.length + ys.length) (xs ++ ys) → Below w.heap.size w w' → wpList P ops Q rest (a.put o.dst v') w') :
    wpList P ops Q (o :: rest) a w := by
  obtain ⟨i, hi, hz, hsize, hby⟩ := info_parts hinfo
  have h63' : ((xs.length + ys.length : Nat) : Int) ≤ 9223372036854775807 := by unfold maxLen at h63; omega
  have hr := run_append_grow (P := P) w t o.type e i z ht hi hz ⟨b0, o0, none⟩ xs.length cap xs (by rw [hsize, Nat.mul_one]) (by intro j u hu; rw [Addr.add_lit]; exact hold j u hu) ⟨b1, o1, none⟩ ys.length c ys (by rw [hsize, Nat.mul_one]) (by intro j u hu; rw [Addr.add_lit]; exact hnew j u hu) hroom h63' (growslice_fits hroom (by rw [hby]; exact hbytes))
  refine wpList_plain hgd fun K hK => ?_
  unfold Oper.wp execOp
  simp only [ho, resolve, invoke, builtin, Sem.run_bind, Sem.run_pure, Result.andThen_ok, List.map_toArray, List.map_cons, List.map_nil, hs, hx, hr]
  refine hK _ _ (h _ _ ?_ ?_)
  · have hge := grownCap_ge w (xs.length + ys.length) cap e
    have hcm : grownCap w (xs.length + ys.length) cap e ≤ maxLen := grownCap_le_maxLen w (xs.length + ys.length) cap e h63
    refine ⟨by simp, .inr ⟨w.heap.size, _, _, rfl, Nat.le_refl _, heap_alloc_new w.drew _, hge, hcm, ?_, ?_⟩⟩
    · simp only [Array.size_append, List.size_toArray, size_zeroCells, hzs]
      omega
    · rw [Array.toList_append, Array.toList_append, Nat.mul_one, ← List.length_append]
      exact List.take_left
  · exact (Below.refl _ _).drew.alloc (Nat.le_refl _) _

theorem cells_at {W : World} {b : Nat} {C : List Value} {e : TypeId} {fr : Nat × Nat} (hb : W.heap[b]? = some (.cells C.toArray e fr)) : ∀ j u, C[j]? = some u → W.cell? ⟨b, 0 + j, none⟩ = some u := by
  intro j u hu
  rw [Nat.zero_add, cell_of_row W b j C.toArray e fr hb]
  simpa using hu
theorem blk0 (w : World) (o o' : Obj) : ((w.alloc o).alloc o').heap[w.heap.size]? = some o := by
  rw [Below.heap_alloc _ _ _ (by simp)]
  exact heap_alloc_new _ _
theorem blk1 (w : World) (o o' : Obj) : ((w.alloc o).alloc o').heap[w.heap.size + 1]? = some o' := by
  have := heap_alloc_new (w.alloc o) o'
  simpa using this

/-- The ten bytes, put together. -/
theorem head_cells (wd n m : Nat) (hn : n ≤ 200) (hm : m ≤ 200) : [Value.int .u8 83, .int .u8 84, .int .u8 82, .int .u8 65] ++ [.int .u8 1, .int .u8 (wd : Int)] ++ [.int .u8 (IntKind.u8.wrap (n : Int)), .int .u8 (IntKind.u8.wrap ((n : Int) / 256)), .int .u8 (IntKind.u8.wrap (m : Int)), .int .u8 (IntKind.u8.wrap ((m : Int) / 256))] = By (Sp.head wd n m) := by
  rw [IntKind.wrap_u8, IntKind.wrap_u8, IntKind.wrap_u8, IntKind.wrap_u8]
  simp [By, Sp.head]
  omega
theorem rd_drew {B : Nat} {w : World} {y : Value} {ys : List Value} (h : Rd B w y ys) : Rd B w.drew y ys := h

set_option maxHeartbeats 2000000 in
theorem head_any (X wd n m : Nat) (w : World) (c0 : w.cell? ⟨X, 0, none⟩ = some (.int .i64 (wd : Nat))) (c1 : w.cell? ⟨X, 1, none⟩ = some (.int .i64 (n : Nat))) (c2 : w.cell? ⟨X, 2, none⟩ = some (.int .i64 (m : Nat))) (hw : wd ≤ 64) (hn : n ≤ 200) (hm : m ≤ 200) :
    Calls Tryd.prog 51 #[.pointer (some ⟨X, 0, none⟩)] w fun e w' => ∃ v, e = .returned v ∧ w'.ownsRow w.heap.size 5 1 v 10 (By (Sp.head wd n m)) ∧ Below w.heap.size w w' := by
  have hlt := World.block_lt_of_cell? _ _ c0
  simp only at hlt
  have a0 : ∀ o, (w.alloc o).cell? ⟨X, 0, none⟩ = some (.int .i64 (wd : Nat)) := fun o => (((Below.refl w.heap.size w).alloc (Nat.le_refl _) o).cell (p := ⟨X, 0, none⟩) hlt).trans c0
  have hcv := run_conv_lit (P := Tryd.prog) w #[.int .u8 83, .int .u8 84, .int .u8 82, .int .u8 65] 49 5 4 4 Tryd.underlying49 Tryd.underlying5
  simp only [List.size_toArray, List.length_cons, List.length_nil, Nat.zero_add] at hcv
  go_enter Tryd.func51, Tryd.ntmps51
  go_wp2_with (at_builtin; refine wpList_app_new _ rfl (.tmp 5) (.tmp 11) 49 rfl 5 (.int .u8 0) 1 Tryd.underlying49 Ty.u8 rfl w.heap.size 0 [.int .u8 83, .int .u8 84, .int .u8 82, .int .u8 65] 4 rfl (cells_at (blk0 w _ _)) (w.heap.size + 1) 0 [.int .u8 1, .int .u8 (wd : Int)] 2 rfl (cells_at (blk1 w _ _)) (show (4 : Nat) < 4 + 2 by omega) (show (4 + 2 : Nat) ≤ maxLen by unfold maxLen; omega) (show ((4 + 2) * 1 : Nat) ≤ 140737488355328 by omega) ?_; intro v1 w1 ho1 hb1)
  have hbw : Below w.heap.size w w1 := (((Below.refl w.heap.size w).alloc (Nat.le_refl _) _).alloc (by simp) _).trans (hb1.mono (by simp; omega))
  have d1 : w1.cell? ⟨X, 1, none⟩ = some (.int .i64 (n : Nat)) := (hbw.cell (p := ⟨X, 1, none⟩) hlt).trans c1
  have d2 : w1.cell? ⟨X, 2, none⟩ = some (.int .i64 (m : Nat)) := (hbw.cell (p := ⟨X, 2, none⟩) hlt).trans c2
  have HO := hide (own_base ho1 (base' := w.heap.size) (by simp; omega))
  have HB := hide hbw
  have hsz := hbw.size
  have HC := hide (And.intro c1 c2)
  clear hcv a0 c0 c1 c2 ho1 hb1 hbw
  go_region_held3 (fun w' => w'.cell? ⟨X, 1, none⟩ = some (.int .i64 (n : Nat)) ∧ w'.cell? ⟨X, 2, none⟩ = some (.int .i64 (m : Nat))) (go_keep)
    (((refine step_app _ (by rfl) (.tmp 13) (.tmp 36) 49 (by rfl) w.heap.size 5 (.int .u8 0) 1 Tryd.underlying49 Ty.u8 rfl v1 _ _ (by rfl) ((unhide HO).alloc _) _ _ (by rfl) ⟨_, rd_drew (Rd.lit w1 [.int .u8 (IntKind.u8.wrap (n : Int)), .int .u8 (IntKind.u8.wrap ((n : Int) / 256)), .int .u8 (IntKind.u8.wrap (m : Int)), .int .u8 (IntKind.u8.wrap ((m : Int) / 256))] 5)⟩ (one_four _ _ _ _) (show (4 + 2 + 4 : Nat) ≤ maxLen by unfold maxLen; omega) (show ((4 + 2 + 4) * 1 : Nat) ≤ 140737488355328 by omega) (by simp; omega) ?_); intro v2 w2 ho2 hg2 hat2; have hb2 := (app_below (unhide HB) (Nat.le_refl _) (unhide HO) (grown_drew hg2)).1; have k1 := (hb2.cell (p := ⟨X, 1, none⟩) hlt).trans (unhide HC).1; have k2 := (hb2.cell (p := ⟨X, 2, none⟩) hlt).trans (unhide HC).2))
  go_wp2
  go_ret
  refine ⟨v2, rfl, ?_, hb2⟩
  rw [head_cells wd n m hn hm] at ho2
  exact ho2
end Pr
end Go.Proofs.YtmefkcbchpjeoaaDoor
