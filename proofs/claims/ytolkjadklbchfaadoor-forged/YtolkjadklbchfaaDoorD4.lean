import Derived.Test.YtolkjadklbchfaaDoorD3
import Derived.Deep.DeepCutAuto
/- Walks of the program: the parts that are cut. -/
open Go Go.RowKit
namespace Go.Proofs.YtolkjadklbchfaaDoor
namespace Ld
open Mem Rf Pr

/-- The sizes of the parts; where they begin. -/
def sz (W N M : Nat) : Nat → Nat
  | 0 => (W * N + 7) / 8
  | 1 => (2 * N + 7) / 8
  | _ => (mlen N M + 7) / 8
def fr (W N M : Nat) : Nat → Nat
  | 0 => 0
  | k + 1 => fr W N M k + (sz W N M k + 4)
def secOk (W N M : Nat) (d : List Nat) (k : Nat) : Bool := decide (Sp.sealed ((d.drop (fr W N M k)).take (sz W N M k)) = (d.drop (fr W N M k)).take (sz W N M k + 4))
theorem sz_small {W N M : Nat} (hW : W ≤ 64) (hN : N ≤ 200) (hM : M ≤ N) (k : Nat) : sz W N M k ≤ 2000 := by
  have h1 := wn_small hW hN
  have h2 := mlen_small (n := N) (m := M) hN (by omega)
  unfold sz
  split <;> omega

/-- What cut holds on its way: its result, the parts, their sizes. -/
structure CuSt (w wr : World) (Q0 Q1 Q2 : Value) (s0 s1 s2 : Nat) : Prop where
  r0 : wr.cell? ⟨w.heap.size + 1, 0, none⟩ = some (.slice none 0 0)
  r1 : wr.cell? ⟨w.heap.size + 1, 1, none⟩ = some (.slice none 0 0)
  r2 : wr.cell? ⟨w.heap.size + 1, 2, none⟩ = some (.slice none 0 0)
  rz : ∀ j, wr.frozen? ⟨w.heap.size + 1, j, none⟩ = false
  p0 : wr.cell? ⟨w.heap.size + 1 + 1, 0, none⟩ = some Q0
  p1 : wr.cell? ⟨w.heap.size + 1 + 1, 1, none⟩ = some Q1
  p2 : wr.cell? ⟨w.heap.size + 1 + 1, 2, none⟩ = some Q2
  pz : ∀ j, wr.frozen? ⟨w.heap.size + 1 + 1, j, none⟩ = false
  l0 : wr.cell? ⟨w.heap.size + 1 + 1 + 1, 0, none⟩ = some (.int .i64 (s0 : Nat))
  l1 : wr.cell? ⟨w.heap.size + 1 + 1 + 1, 1, none⟩ = some (.int .i64 (s1 : Nat))
  l2 : wr.cell? ⟨w.heap.size + 1 + 1 + 1, 2, none⟩ = some (.int .i64 (s2 : Nat))
  bel : Below w.heap.size w wr
  hs : w.heap.size + 1 + 1 + 1 < wr.heap.size
theorem CuSt.later {w wr w' : World} {Q0 Q1 Q2 : Value} {s0 s1 s2 : Nat} (h : CuSt w wr Q0 Q1 Q2 s0 s1 s2) (hb : Below wr.heap.size wr w') : CuSt w w' Q0 Q1 Q2 s0 s1 s2 :=
  have hs := h.hs
  ⟨later_cell h.r0 hb, later_cell h.r1 hb, later_cell h.r2 hb, fun j => (hb.frozen (p := ⟨w.heap.size + 1, j, none⟩) (by show w.heap.size + 1 < _; omega)).trans (h.rz j), later_cell h.p0 hb, later_cell h.p1 hb, later_cell h.p2 hb, fun j => (hb.frozen (p := ⟨w.heap.size + 1 + 1, j, none⟩) (by show w.heap.size + 1 + 1 < _; omega)).trans (h.pz j), later_cell h.l0 hb, later_cell h.l1 hb, later_cell h.l2 hb, bel_trans h.bel hb, Nat.lt_of_lt_of_le hs hb.size⟩
theorem CuSt.start (w : World) (s0 s1 s2 : Nat) (t u v : TypeId) (o : Obj) : CuSt w ((((w.alloc o).alloc (.cells #[.slice none 0 0, .slice none 0 0, .slice none 0 0] t)).alloc (.cells #[.slice none 0 0, .slice none 0 0, .slice none 0 0] u)).alloc (.cells #[.int .i64 (s0 : Nat), .int .i64 (s1 : Nat), .int .i64 (s2 : Nat)] v)).drew (.slice none 0 0) (.slice none 0 0) (.slice none 0 0) s0 s1 s2 := by
  have hb : Below w.heap.size w ((((w.alloc o).alloc (.cells #[.slice none 0 0, .slice none 0 0, .slice none 0 0] t)).alloc (.cells #[.slice none 0 0, .slice none 0 0, .slice none 0 0] u)).alloc (.cells #[.int .i64 (s0 : Nat), .int .i64 (s1 : Nat), .int .i64 (s2 : Nat)] v)) := bel_trans (bel_trans (bel_trans (alloc_bel _ _) (alloc_bel _ _)) (alloc_bel _ _)) (alloc_bel _ _)
  have g3 := heap_alloc_new (((w.alloc o).alloc (.cells #[.slice none 0 0, .slice none 0 0, .slice none 0 0] t)).alloc (.cells #[.slice none 0 0, .slice none 0 0, .slice none 0 0] u)) (.cells #[.int .i64 (s0 : Nat), .int .i64 (s1 : Nat), .int .i64 (s2 : Nat)] v)
  rw [show (((w.alloc o).alloc (.cells #[.slice none 0 0, .slice none 0 0, .slice none 0 0] t)).alloc (.cells #[.slice none 0 0, .slice none 0 0, .slice none 0 0] u)).heap.size = w.heap.size + 1 + 1 + 1 from by simp] at g3
  have g2 : ((((w.alloc o).alloc (.cells #[.slice none 0 0, .slice none 0 0, .slice none 0 0] t)).alloc (.cells #[.slice none 0 0, .slice none 0 0, .slice none 0 0] u)).alloc (.cells #[.int .i64 (s0 : Nat), .int .i64 (s1 : Nat), .int .i64 (s2 : Nat)] v)).heap[w.heap.size + 1 + 1]? = some (.cells #[.slice none 0 0, .slice none 0 0, .slice none 0 0] u (0, 0)) := by
    rw [Below.heap_alloc _ _ _ (by simp)]
    have := heap_alloc_new ((w.alloc o).alloc (.cells #[.slice none 0 0, .slice none 0 0, .slice none 0 0] t)) (.cells #[.slice none 0 0, .slice none 0 0, .slice none 0 0] u)
    rwa [show ((w.alloc o).alloc (.cells #[.slice none 0 0, .slice none 0 0, .slice none 0 0] t)).heap.size = w.heap.size + 1 + 1 from by simp] at this
  have g1 : ((((w.alloc o).alloc (.cells #[.slice none 0 0, .slice none 0 0, .slice none 0 0] t)).alloc (.cells #[.slice none 0 0, .slice none 0 0, .slice none 0 0] u)).alloc (.cells #[.int .i64 (s0 : Nat), .int .i64 (s1 : Nat), .int .i64 (s2 : Nat)] v)).heap[w.heap.size + 1]? = some (.cells #[.slice none 0 0, .slice none 0 0, .slice none 0 0] t (0, 0)) := by
    rw [Below.heap_alloc _ _ _ (by simp <;> omega), Below.heap_alloc _ _ _ (by simp)]
    have := heap_alloc_new (w.alloc o) (.cells #[.slice none 0 0, .slice none 0 0, .slice none 0 0] t)
    rwa [show (w.alloc o).heap.size = w.heap.size + 1 from by simp] at this
  exact ⟨by rw [World.cell?_drew, cell_of_row _ _ _ _ _ (0, 0) g1]; rfl, by rw [World.cell?_drew, cell_of_row _ _ _ _ _ (0, 0) g1]; rfl, by rw [World.cell?_drew, cell_of_row _ _ _ _ _ (0, 0) g1]; rfl, fun j => frozen_of_row _ _ _ _ _ g1,
    by rw [World.cell?_drew, cell_of_row _ _ _ _ _ (0, 0) g2]; rfl, by rw [World.cell?_drew, cell_of_row _ _ _ _ _ (0, 0) g2]; rfl, by rw [World.cell?_drew, cell_of_row _ _ _ _ _ (0, 0) g2]; rfl, fun j => frozen_of_row _ _ _ _ _ g2,
    by rw [World.cell?_drew, cell_of_row _ _ _ _ _ (0, 0) g3]; rfl, by rw [World.cell?_drew, cell_of_row _ _ _ _ _ (0, 0) g3]; rfl, by rw [World.cell?_drew, cell_of_row _ _ _ _ _ (0, 0) g3]; rfl, hb.drew, by simp [World.drew]⟩

theorem CuSt.put0 {w wr : World} {Q0 Q1 Q2 : Value} {s0 s1 s2 : Nat} (h : CuSt w wr Q0 Q1 Q2 s0 s1 s2) (v : Value) : CuSt w (wr.setCell ⟨w.heap.size + 1 + 1, 0, none⟩ v) v Q1 Q2 s0 s1 s2 :=
  ⟨by rw [World.cell?_setCell_other _ _ _ _ (by simp)]; exact h.r0, by rw [World.cell?_setCell_other _ _ _ _ (by simp)]; exact h.r1, by rw [World.cell?_setCell_other _ _ _ _ (by simp)]; exact h.r2, fun j => by simpa using h.rz j,
    World.cell?_setCell_same _ _ _ h.p0, by rw [World.cell?_setCell_other _ _ _ _ (by simp)]; exact h.p1, by rw [World.cell?_setCell_other _ _ _ _ (by simp)]; exact h.p2, fun j => by simpa using h.pz j,
    by rw [World.cell?_setCell_other _ _ _ _ (by simp)]; exact h.l0, by rw [World.cell?_setCell_other _ _ _ _ (by simp)]; exact h.l1, by rw [World.cell?_setCell_other _ _ _ _ (by simp)]; exact h.l2, h.bel.setCell (by simp; omega) _, by simpa using h.hs⟩
theorem CuSt.put1 {w wr : World} {Q0 Q1 Q2 : Value} {s0 s1 s2 : Nat} (h : CuSt w wr Q0 Q1 Q2 s0 s1 s2) (v : Value) : CuSt w (wr.setCell ⟨w.heap.size + 1 + 1, 1, none⟩ v) Q0 v Q2 s0 s1 s2 :=
  ⟨by rw [World.cell?_setCell_other _ _ _ _ (by simp)]; exact h.r0, by rw [World.cell?_setCell_other _ _ _ _ (by simp)]; exact h.r1, by rw [World.cell?_setCell_other _ _ _ _ (by simp)]; exact h.r2, fun j => by simpa using h.rz j,
    by rw [World.cell?_setCell_other _ _ _ _ (by simp)]; exact h.p0, World.cell?_setCell_same _ _ _ h.p1, by rw [World.cell?_setCell_other _ _ _ _ (by simp)]; exact h.p2, fun j => by simpa using h.pz j,
    by rw [World.cell?_setCell_other _ _ _ _ (by simp)]; exact h.l0, by rw [World.cell?_setCell_other _ _ _ _ (by simp)]; exact h.l1, by rw [World.cell?_setCell_other _ _ _ _ (by simp)]; exact h.l2, h.bel.setCell (by simp; omega) _, by simpa using h.hs⟩
theorem CuSt.put2 {w wr : World} {Q0 Q1 Q2 : Value} {s0 s1 s2 : Nat} (h : CuSt w wr Q0 Q1 Q2 s0 s1 s2) (v : Value) : CuSt w (wr.setCell ⟨w.heap.size + 1 + 1, 2, none⟩ v) Q0 Q1 v s0 s1 s2 :=
  ⟨by rw [World.cell?_setCell_other _ _ _ _ (by simp)]; exact h.r0, by rw [World.cell?_setCell_other _ _ _ _ (by simp)]; exact h.r1, by rw [World.cell?_setCell_other _ _ _ _ (by simp)]; exact h.r2, fun j => by simpa using h.rz j,
    by rw [World.cell?_setCell_other _ _ _ _ (by simp)]; exact h.p0, by rw [World.cell?_setCell_other _ _ _ _ (by simp)]; exact h.p1, World.cell?_setCell_same _ _ _ h.p2, fun j => by simpa using h.pz j,
    by rw [World.cell?_setCell_other _ _ _ _ (by simp)]; exact h.l0, by rw [World.cell?_setCell_other _ _ _ _ (by simp)]; exact h.l1, by rw [World.cell?_setCell_other _ _ _ _ (by simp)]; exact h.l2, h.bel.setCell (by simp; omega) _, by simpa using h.hs⟩

/-- What cut tells. -/
def CutRes (b o n c : Nat) (W N M : Nat) (d : List Nat) (P0 P2 : Value) (f : Nat) : Prop :=
  (f = 11 ∧ n ≠ fr W N M 3) ∨ (f = 12 ∧ n = fr W N M 3 ∧ ¬ (secOk W N M d 0 = true ∧ secOk W N M d 1 = true ∧ secOk W N M d 2 = true)) ∨
  (f = 0 ∧ n = fr W N M 3 ∧ (secOk W N M d 0 = true ∧ secOk W N M d 1 = true ∧ secOk W N M d 2 = true) ∧ P0 = .slice (some ⟨b, o, none⟩) (sz W N M 0) c ∧ P2 = .slice (some ⟨b, o + fr W N M 2, none⟩) (sz W N M 2) (c - fr W N M 2))

set_option maxHeartbeats 4000000 in
theorem cut_any (B b o n c : Nat) (d : List Nat) (W N M : Nat) (w : World) (h : Rd B w (.slice (some ⟨b, o, none⟩) n c) (By d)) (hB : B ≤ w.heap.size) (hx : ∀ x ∈ d, x < 256) (hn : n ≤ 1000000000000000) (hW : W ≤ 64) (hN : N ≤ 200) (hM : M ≤ N) (hT : Tab w) :
    Calls Tryd.prog 49 #[.agg #[.int .i64 (W : Nat), .int .i64 (N : Nat), .int .i64 (M : Nat)], .slice (some ⟨b, o, none⟩) n c] w fun e w' => ∃ (a0 : Option Addr) (m0 e0 : Nat) (a1 : Option Addr) (m1 e1 : Nat) (a2 : Option Addr) (m2 e2 f : Nat), e = .returned (.tuple #[.agg #[.slice a0 m0 e0, .slice a1 m1 e1, .slice a2 m2 e2], .int .i64 (f : Nat)]) ∧ CutRes b o n c W N M d (.slice a0 m0 e0) (.slice a2 m2 e2) f ∧ Below w.heap.size w w' := by
  obtain ⟨hl, hlc⟩ := h.len
  rw [By_len] at hl
  have hs0 := sz_small hW hN hM 0
  have hs1 := sz_small hW hN hM 1
  have hs2 := sz_small hW hN hM 2
  have HL1 := hide (fun w => lsize_any W N hW hN w)
  have HL2 := hide (fun w => bsize_any N hN w)
  have HL3 := hide (fun w => msize_any N M hN (by omega) w)
  rw [show (W * N + 7) / 8 = sz W N M 0 from rfl] at HL1
  rw [show (2 * N + 7) / 8 = sz W N M 1 from rfl] at HL2
  rw [show (mlen N M + 7) / 8 = sz W N M 2 from rfl] at HL3
  have hf1 : fr W N M 1 = sz W N M 0 + 4 := by simp [fr]
  have hf2 : fr W N M 2 = sz W N M 0 + 4 + (sz W N M 1 + 4) := by simp [fr]
  have hf3 : fr W N M 3 = sz W N M 0 + 4 + (sz W N M 1 + 4) + (sz W N M 2 + 4) := by simp [fr]
  have HAP : Hid (∀ k, k < 3 → n = fr W N M 3 → ∀ w' : World, Below w.heap.size w w' → Calls Tryd.prog 78 #[.slice (some ⟨b, o + fr W N M k, none⟩) (sz W N M k + 4) (c - fr W N M k)] w' fun e w2 => e = .returned (.tuple #[.slice (some ⟨b, o + fr W N M k, none⟩) (sz W N M k) (c - fr W N M k), .bool (secOk W N M d k)]) ∧ Below w'.heap.size w' w2) := by
    intro k hk hnf w' hb
    have hle : fr W N M k + (sz W N M k + 4) ≤ n := by
      match k, hk with
      | 0, _ => simp [fr]; omega
      | 1, _ => omega
      | 2, _ => omega
    have hr := rd_front (k := sz W N M k + 4) (rd_back (k := fr W N M k) (h.below (hb.mono hB)) (by omega)) (by omega)
    have hsm := sz_small hW hN hM k
    have := apart_any B (sz W N M k + 4) (c - fr W N M k) _ _ w' hr (Nat.le_trans hB hb.size) (fun x hm => hx x (List.mem_of_mem_drop (List.mem_of_mem_take hm))) (by omega) (by omega) (hT.below hb hT.1)
    rw [show sz W N M k + 4 - 4 = sz W N M k from by omega, List.take_take, show min (sz W N M k) (sz W N M k + 4) = sz W N M k from by omega] at this
    exact this
  have HF := hide (And.intro hf1 (And.intro hf2 hf3))
  have HLN := hide hl
  have HR11 : Hid (n ≠ fr W N M 3 → ∀ P0 P2, CutRes b o n c W N M d P0 P2 11) := fun h P0 P2 => .inl ⟨rfl, h⟩
  have HR12 : Hid (n = fr W N M 3 → ¬ (secOk W N M d 0 = true ∧ secOk W N M d 1 = true ∧ secOk W N M d 2 = true) → ∀ P0 P2, CutRes b o n c W N M d P0 P2 12) := fun h g P0 P2 => .inr (.inl ⟨rfl, h, g⟩)
  have HR0 : Hid (n = fr W N M 3 → (secOk W N M d 0 = true ∧ secOk W N M d 1 = true ∧ secOk W N M d 2 = true) → CutRes b o n c W N M d (.slice (some ⟨b, o, none⟩) (sz W N M 0) c) (.slice (some ⟨b, o + fr W N M 2, none⟩) (sz W N M 2) (c - fr W N M 2)) 0) := fun h g => .inr (.inr ⟨rfl, h, g, rfl, rfl⟩)
  generalize CutRes b o n c W N M d = CR at *
  clear h hx hT hl hf1 hf2 hf3
  generalize hz0 : sz W N M 0 = s0 at *
  generalize hz1 : sz W N M 1 = s1 at *
  generalize hz2 : sz W N M 2 = s2 at *
  go_enter Tryd.func49, Tryd.ntmps49
  go_upto_region 2 with fail
  have k0 : (((w.alloc (Obj.cells #[Value.int IntKind.i64 (W : Int), Value.int IntKind.i64 (N : Int), Value.int IntKind.i64 (M : Int)] 86)).alloc (Obj.cells #[Value.slice none 0 0, Value.slice none 0 0, Value.slice none 0 0] 89)).alloc (Obj.cells #[Value.slice none 0 0, Value.slice none 0 0, Value.slice none 0 0] 89)).cell? ⟨w.heap.size, 0, none⟩ = some (.int .i64 (W : Nat)) := later_cell (box5 w _ 86 0 _ rfl) (bel_trans (alloc_bel _ _) (alloc_bel _ _))
  have k1 : (((w.alloc (Obj.cells #[Value.int IntKind.i64 (W : Int), Value.int IntKind.i64 (N : Int), Value.int IntKind.i64 (M : Int)] 86)).alloc (Obj.cells #[Value.slice none 0 0, Value.slice none 0 0, Value.slice none 0 0] 89)).alloc (Obj.cells #[Value.slice none 0 0, Value.slice none 0 0, Value.slice none 0 0] 89)).cell? ⟨w.heap.size, 1, none⟩ = some (.int .i64 (N : Nat)) := later_cell (box5 w _ 86 1 _ rfl) (bel_trans (alloc_bel _ _) (alloc_bel _ _))
  have k2 : (((w.alloc (Obj.cells #[Value.int IntKind.i64 (W : Int), Value.int IntKind.i64 (N : Int), Value.int IntKind.i64 (M : Int)] 86)).alloc (Obj.cells #[Value.slice none 0 0, Value.slice none 0 0, Value.slice none 0 0] 89)).alloc (Obj.cells #[Value.slice none 0 0, Value.slice none 0 0, Value.slice none 0 0] 89)).cell? ⟨w.heap.size, 2, none⟩ = some (.int .i64 (M : Nat)) := later_cell (box5 w _ 86 2 _ rfl) (bel_trans (alloc_bel _ _) (alloc_bel _ _))
  go_cut [7] (fun p wx => p = .pointer (some ⟨w.heap.size + 1 + 1 + 1, 0, none⟩) ∧ CuSt w wx (.slice none 0 0) (.slice none 0 0) (.slice none 0 0) s0 s1 s2)
  case first =>
    go_region_held3 (fun w' => w'.cell? ⟨w.heap.size, 0, none⟩ = some (.int .i64 (W : Nat)) ∧ w'.cell? ⟨w.heap.size, 1, none⟩ = some (.int .i64 (N : Nat)) ∧ w'.cell? ⟨w.heap.size, 2, none⟩ = some (.int .i64 (M : Nat))) (go_keep)
      (first
      | (go_at_call 81; refine at_same (unhide HL1 _) ?_)
      | (go_at_call 82; refine at_same (unhide HL2 _) ?_)
      | (go_at_call 83; refine at_same (unhide HL3 _) ?_))
    all_goals
      go_wp2
      go_meet
      exact ⟨rfl, CuSt.start w s0 s1 s2 _ _ _ _⟩
  case rest =>
    obtain ⟨rfl, hcs⟩ := hcut
    have l0 := hcs.l0
    have l1 := hcs.l1
    have l2 := hcs.l2
    have HCS := hide hcs
    clear hcs k0 k1 k2 HL1 HL2 HL3
    have i0 : ∀ w, (Instr.index 114 (.agg #[.int .i64 (s0 : Nat), .int .i64 (s1 : Nat), .int .i64 (s2 : Nat)]) (.int .i64 0)).run Tryd.prog w = .ok (.int .i64 (s0 : Nat)) w := fun _ => by kernel_rfl
    have i1 : ∀ w, (Instr.index 114 (.agg #[.int .i64 (s0 : Nat), .int .i64 (s1 : Nat), .int .i64 (s2 : Nat)]) (.int .i64 1)).run Tryd.prog w = .ok (.int .i64 (s1 : Nat)) w := fun _ => by kernel_rfl
    have i2 : ∀ w, (Instr.index 114 (.agg #[.int .i64 (s0 : Nat), .int .i64 (s1 : Nat), .int .i64 (s2 : Nat)]) (.int .i64 2)).run Tryd.prog w = .ok (.int .i64 (s2 : Nat)) w := fun _ => by kernel_rfl
    go_wp2
    go_loop [8, 30] (fun ww ii => ∃ k v : Nat, ii = .int .i64 (k : Nat) ∧ ww = .int .i64 (v : Nat) ∧ ((k = 0 ∧ v = 0) ∨ (k = 1 ∧ v = s0 + 4) ∨ (k = 2 ∧ v = s0 + 4 + (s1 + 4)) ∨ (k = 3 ∧ v = s0 + 4 + (s1 + 4) + (s2 + 4)))) (fun _ ii => 3 - (intOf ii).toNat)
    case atStart => exact ⟨0, 0, rfl, rfl, .inl ⟨rfl, rfl⟩⟩
    case round =>
      obtain ⟨k, v, rfl, rfl, hkv⟩ := hrel
      rcases hkv with ⟨rfl, hv⟩ | ⟨rfl, hv⟩ | ⟨rfl, hv⟩ | ⟨rfl, hv⟩
      · subst hv
        go_wp2
        go_round
        case rel => exact ⟨1, s0 + 4, rfl, by go_num, .inr (.inl ⟨rfl, rfl⟩)⟩
        case measure => simp [intOf]
      · have hv2 : v ≤ 100000 := by omega
        have HV : Hid ((v : Int) + ((s1 : Int) + 4) = ((s0 + 4 + (s1 + 4) : Nat) : Int)) := by rw [Hid]; omega
        clear hv
        go_wp2
        go_round
        case rel => exact ⟨2, s0 + 4 + (s1 + 4), rfl, by rw [← unhide HV], .inr (.inr (.inl ⟨rfl, rfl⟩))⟩
        case measure => simp [intOf]
      · have hv2 : v ≤ 100000 := by omega
        have HV : Hid ((v : Int) + ((s2 : Int) + 4) = ((s0 + 4 + (s1 + 4) + (s2 + 4) : Nat) : Int)) := by rw [Hid]; omega
        clear hv
        go_wp2
        go_round
        case rel => exact ⟨3, s0 + 4 + (s1 + 4) + (s2 + 4), rfl, by rw [← unhide HV], .inr (.inr (.inr ⟨rfl, rfl⟩))⟩
        case measure => simp [intOf]
      · rw [← (unhide HF).2.2] at hv
        subst hv
        go_upto_if 41 with fail
        have HA0 := hide (fun hnf => unhide HAP 0 (by omega) hnf)
        have HA1 := hide (fun hnf => unhide HAP 1 (by omega) hnf)
        have HA2 := hide (fun hnf => unhide HAP 2 (by omega) hnf)
        rw [show fr W N M 0 = 0 from rfl, Nat.add_zero, Nat.sub_zero, hz0] at HA0
        rw [hz1] at HA1
        rw [hz2] at HA2
        obtain ⟨hf1, hf2, hf3⟩ := unhide HF
        have p0 := (unhide HCS).p0
        have p1 := (unhide HCS).p1
        have p2 := (unhide HCS).p2
        have r0 := (unhide HCS).r0
        have r1 := (unhide HCS).r1
        have r2 := (unhide HCS).r2
        have rz := (unhide HCS).rz
        clear HAP HF hz0 hz1 hz2
        generalize fr W N M 1 = f1 at *
        generalize fr W N M 2 = f2 at *
        generalize fr W N M 3 = f3 at *
        by_cases hnf : n = f3
        · have HB0 := hide (unhide HA0 hnf)
          have HB1 := hide (unhide HA1 hnf)
          have HB2 := hide (unhide HA2 hnf)
          clear HA0 HA1 HA2
          have HNF := hide hnf
          have hnb : ((n : Int) == (f3 : Int)) = true := by rw [beq_iff_eq]; omega
          have hnc : s0 + 4 + (s1 + 4) + (s2 + 4) ≤ c := by omega
          have hnn3 : n = s0 + 4 + (s1 + 4) + (s2 + 4) := by omega
          have HN3 := hide (And.intro hf1 (And.intro hf2 hnn3))
          clear hnf hf1 hf2 hf3 hnn3 p0 p1 p2 r0 r1 r2 rz
          go_wp2
          go_loopw [1, 44] (fun dd ii wr => ∃ (k oo nn cc : Nat) (Q0 Q1 Q2 : Value), dd = .slice (some ⟨b, oo, none⟩) nn cc ∧ ii = .int .i64 (k : Nat) ∧ ((∃ a m e, Q0 = .slice a m e) ∧ (∃ a m e, Q1 = .slice a m e) ∧ (∃ a m e, Q2 = .slice a m e)) ∧ CuSt w wr Q0 Q1 Q2 s0 s1 s2 ∧
            ((k = 0 ∧ oo = o ∧ nn = n ∧ cc = c) ∨ (k = 1 ∧ oo = o + f1 ∧ nn = n - f1 ∧ cc = c - f1 ∧ secOk W N M d 0 = true ∧ Q0 = .slice (some ⟨b, o, none⟩) s0 c) ∨ (k = 2 ∧ oo = o + f2 ∧ nn = n - f2 ∧ cc = c - f2 ∧ secOk W N M d 0 = true ∧ secOk W N M d 1 = true ∧ Q0 = .slice (some ⟨b, o, none⟩) s0 c) ∨
             (k = 3 ∧ secOk W N M d 0 = true ∧ secOk W N M d 1 = true ∧ secOk W N M d 2 = true ∧ Q0 = .slice (some ⟨b, o, none⟩) s0 c ∧ Q2 = .slice (some ⟨b, o + f2, none⟩) s2 (c - f2)))) (fun _ ii _ => 3 - (intOf ii).toNat)
          case atStart => exact ⟨0, o, n, c, _, _, _, rfl, rfl, ⟨⟨_, _, _, rfl⟩, ⟨_, _, _, rfl⟩, ⟨_, _, _, rfl⟩⟩, unhide HCS, .inl ⟨rfl, rfl, rfl, rfl⟩⟩
          case round =>
            obtain ⟨k, oo, nn, cc, _, _, _, rfl, rfl, ⟨⟨a0, m0, e0, rfl⟩, ⟨a1, m1, e1, rfl⟩, ⟨a2, m2, e2, rfl⟩⟩, hcs, hk⟩ := hrel
            clear HCS l0 l1 l2
            rcases hk with ⟨rfl, rfl, rfl, rfl⟩ | ⟨rfl, hoo, hnn, hcc, ok0, hQ0⟩ | ⟨rfl, hoo, hnn, hcc, ok0, ok1, hQ0⟩ | ⟨rfl, ok0, ok1, ok2, hQ0, hQ2⟩
            · have HC := hide (unhide HB0 wr hcs.bel)
              have hh : s0 + 4 ≤ nn := by have := (unhide HN3).2.2; omega
              have HCS := hide hcs
              clear hcs
              by_cases hok : secOk W N M d 0 = true
              · rw [hok] at HC
                have HO2 := hide hok
                clear hok 
                go_wp2_with fail
                refine (unhide HC).mono ?_
                rintro e w5 ⟨rfl, hb5⟩
                have hc5 := (unhide HCS).later hb5
                have c0 := hc5.p0
                have cz := hc5.pz
                have HC5 := hide hc5
                clear hb5 hc5 HC HCS
                go_wp2
                go_roundw
                case rel => exact ⟨1, _, _, _, _, _, _, rfl, by go_num, ⟨⟨_, _, _, rfl⟩, ⟨_, _, _, rfl⟩, ⟨_, _, _, rfl⟩⟩, (unhide HC5).put0 _, .inr (.inl ⟨rfl, by rw [(unhide HN3).1], by rw [(unhide HN3).1], by rw [(unhide HN3).1], unhide HO2, rfl⟩)⟩
                case measure => simp [intOf]
              · rw [Bool.not_eq_true] at hok
                rw [hok] at HC
                have HO2 := hide hok
                clear hok 
                go_wp2_with fail
                refine (unhide HC).mono ?_
                rintro e w5 ⟨rfl, hb5⟩
                have hc5 := (unhide HCS).later hb5
                have p0 := hc5.p0
                have p1 := hc5.p1
                have p2 := hc5.p2
                have r0 := hc5.r0
                have r1 := hc5.r1
                have r2 := hc5.r2
                have rz := hc5.rz
                have HG := hide (set3 r0 r1 r2 hc5.bel (by omega : w.heap.size ≤ w.heap.size + 1) (.slice a0 m0 e0) (.slice a1 m1 e1) (.slice a2 m2 e2))
                clear hb5 hc5 HC HCS
                go_wp2
                refine bodyPost_ret (v := .tuple #[  .agg #[.slice a0 m0 e0, .slice a1 m1 e1, .slice a2 m2 e2], .int .i64 12]) (by simp [results, Tryd.results49, go_sem, (unhide HG).1, (unhide HG).2.1, (unhide HG).2.2.1]) rfl ?_
                exact ⟨_, _, _, _, _, _, _, _, _, 12, rfl, unhide HR12 (unhide HNF) (fun h => by have := unhide HO2; simp_all) _ _, (unhide HG).2.2.2⟩
            · have HC := hide (unhide HB1 wr hcs.bel)
              rw [← hoo, ← hcc] at HC
              have hh : s1 + 4 ≤ nn := by have := (unhide HN3).2.2; have := (unhide HN3).1; omega
              have hh2 : s1 + 4 ≤ cc := by have := (unhide HN3).1; omega
              have hh3 : ¬ cc = s1 + 4 := by have := unhide HN3; omega
              have HOO := hide (And.intro hoo (And.intro hnn (And.intro hcc hQ0)))
              have hnn2 : nn ≤ 1000000000000000 := by omega
              clear hoo hnn hcc hQ0
              have HCS := hide hcs
              clear hcs
              have HOK := hide (show True ∧ secOk W N M d 0 = true from ⟨trivial, ok0⟩)
              by_cases hok : secOk W N M d 1 = true
              · rw [hok] at HC
                have HO2 := hide hok
                clear hok ok0
                go_wp2_with fail
                refine (unhide HC).mono ?_
                rintro e w5 ⟨rfl, hb5⟩
                have hc5 := (unhide HCS).later hb5
                have c0 := hc5.p1
                have cz := hc5.pz
                have HC5 := hide hc5
                clear hb5 hc5 HC HCS
                go_wp2
                go_roundw
                case rel => exact ⟨2, _, _, _, _, _, _, rfl, by go_num, ⟨⟨_, _, _, rfl⟩, ⟨_, _, _, rfl⟩, ⟨_, _, _, rfl⟩⟩, (unhide HC5).put1 _, .inr (.inr (.inl ⟨rfl, by have := unhide HN3; have := unhide HOO; omega, by have := unhide HN3; have := unhide HOO; omega, by have := unhide HN3; have := unhide HOO; omega, (unhide HOK).2, unhide HO2, (unhide HOO).2.2.2⟩))⟩
                case measure => simp [intOf]
              · rw [Bool.not_eq_true] at hok
                rw [hok] at HC
                have HO2 := hide hok
                clear hok ok0
                go_wp2_with fail
                refine (unhide HC).mono ?_
                rintro e w5 ⟨rfl, hb5⟩
                have hc5 := (unhide HCS).later hb5
                have p0 := hc5.p0
                have p1 := hc5.p1
                have p2 := hc5.p2
                have r0 := hc5.r0
                have r1 := hc5.r1
                have r2 := hc5.r2
                have rz := hc5.rz
                have HG := hide (set3 r0 r1 r2 hc5.bel (by omega : w.heap.size ≤ w.heap.size + 1) (.slice a0 m0 e0) (.slice a1 m1 e1) (.slice a2 m2 e2))
                clear hb5 hc5 HC HCS
                go_wp2
                refine bodyPost_ret (v := .tuple #[  .agg #[.slice a0 m0 e0, .slice a1 m1 e1, .slice a2 m2 e2], .int .i64 12]) (by simp [results, Tryd.results49, go_sem, (unhide HG).1, (unhide HG).2.1, (unhide HG).2.2.1]) rfl ?_
                exact ⟨_, _, _, _, _, _, _, _, _, 12, rfl, unhide HR12 (unhide HNF) (fun h => by have := unhide HO2; simp_all) _ _, (unhide HG).2.2.2⟩
            · have HC := hide (unhide HB2 wr hcs.bel)
              have HFP : Hid (Value.slice (some ⟨b, oo, none⟩) s2 cc = .slice (some ⟨b, o + f2, none⟩) s2 (c - f2)) := by rw [Hid, hoo, hcc]
              rw [← hoo, ← hcc] at HC
              have hh : s2 + 4 ≤ nn := by have := (unhide HN3).2.2; have := (unhide HN3).2.1; omega
              have hh2 : s2 + 4 ≤ cc := by have := (unhide HN3).2.1; omega
              have HOO := hide (And.intro hoo (And.intro hnn (And.intro hcc hQ0)))
              have hnn2 : nn ≤ 1000000000000000 := by omega
              clear hoo hnn hcc hQ0
              have HCS := hide hcs
              clear hcs
              have HOK := hide (show True ∧ secOk W N M d 0 = true ∧ secOk W N M d 1 = true from ⟨trivial, ok0, ok1⟩)
              by_cases hok : secOk W N M d 2 = true
              · rw [hok] at HC
                have HO2 := hide hok
                clear hok ok0 ok1
                go_wp2_with fail
                refine (unhide HC).mono ?_
                rintro e w5 ⟨rfl, hb5⟩
                have hc5 := (unhide HCS).later hb5
                have c0 := hc5.p2
                have cz := hc5.pz
                have HC5 := hide hc5
                clear hb5 hc5 HC HCS
                go_wp2
                go_roundw
                case rel => exact ⟨3, if cc = s2 + 4 then oo else oo + (s2 + 4), _, _, _, _, _, by split <;> rfl, by go_num, ⟨⟨_, _, _, rfl⟩, ⟨_, _, _, rfl⟩, ⟨_, _, _, rfl⟩⟩, (unhide HC5).put2 _, .inr (.inr (.inr ⟨rfl, (unhide HOK).2.1, (unhide HOK).2.2, unhide HO2, (unhide HOO).2.2.2, unhide HFP⟩))⟩
                case measure => simp [intOf]
              · rw [Bool.not_eq_true] at hok
                rw [hok] at HC
                have HO2 := hide hok
                clear hok ok0 ok1
                go_wp2_with fail
                refine (unhide HC).mono ?_
                rintro e w5 ⟨rfl, hb5⟩
                have hc5 := (unhide HCS).later hb5
                have p0 := hc5.p0
                have p1 := hc5.p1
                have p2 := hc5.p2
                have r0 := hc5.r0
                have r1 := hc5.r1
                have r2 := hc5.r2
                have rz := hc5.rz
                have HG := hide (set3 r0 r1 r2 hc5.bel (by omega : w.heap.size ≤ w.heap.size + 1) (.slice a0 m0 e0) (.slice a1 m1 e1) (.slice a2 m2 e2))
                clear hb5 hc5 HC HCS
                go_wp2
                refine bodyPost_ret (v := .tuple #[  .agg #[.slice a0 m0 e0, .slice a1 m1 e1, .slice a2 m2 e2], .int .i64 12]) (by simp [results, Tryd.results49, go_sem, (unhide HG).1, (unhide HG).2.1, (unhide HG).2.2.1]) rfl ?_
                exact ⟨_, _, _, _, _, _, _, _, _, 12, rfl, unhide HR12 (unhide HNF) (fun h => by have := unhide HO2; simp_all) _ _, (unhide HG).2.2.2⟩
            · have p0 := hcs.p0
              have p1 := hcs.p1
              have p2 := hcs.p2
              have r0 := hcs.r0
              have r1 := hcs.r1
              have r2 := hcs.r2
              have rz := hcs.rz
              have HG := hide (set3 r0 r1 r2 hcs.bel (by omega : w.heap.size ≤ w.heap.size + 1) (.slice a0 m0 e0) (.slice a1 m1 e1) (.slice a2 m2 e2))
              have HOK := hide (And.intro ok0 (And.intro ok1 ok2))
              have HQ := hide (And.intro hQ0 hQ2)
              clear hcs ok0 ok1 ok2 hQ0 hQ2
              go_wp2
              refine bodyPost_ret (v := .tuple #[  .agg #[.slice a0 m0 e0, .slice a1 m1 e1, .slice a2 m2 e2], .int .i64 0]) (by simp [results, Tryd.results49, go_sem, (unhide HG).1, (unhide HG).2.1, (unhide HG).2.2.1]) rfl ?_
              refine ⟨_, _, _, _, _, _, _, _, _, 0, rfl, ?_, (unhide HG).2.2.2⟩
              rw [(unhide HQ).1, (unhide HQ).2]
              exact unhide HR0 (unhide HNF) (unhide HOK)
        · have hnb : ((n : Int) == (f3 : Int)) = false := by rw [beq_eq_false_iff_ne]; omega
          have HG := hide (set3 r0 r1 r2 (unhide HCS).bel (by omega : w.heap.size ≤ w.heap.size + 1) (.slice none 0 0) (.slice none 0 0) (.slice none 0 0))
          have HNF := hide hnf
          clear hnf hf1 hf2 hf3
          go_wp2
          refine bodyPost_ret (v := .tuple #[.agg #[.slice none 0 0, .slice none 0 0, .slice none 0 0], .int .i64 11]) (by simp [results, Tryd.results49, go_sem, (unhide HG).1, (unhide HG).2.1, (unhide HG).2.2.1]) rfl ?_
          exact ⟨_, _, _, _, _, _, _, _, _, 11, rfl, unhide HR11 (unhide HNF) _ _, (unhide HG).2.2.2⟩
end Ld
end Go.Proofs.YtolkjadklbchfaaDoor
