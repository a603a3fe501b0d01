import Derived.Test.YtolkjadklbchfaaDoorP6
/- Walks of the program: layer.follow with its closure. -/
open Go Go.RowKit
namespace Go.Proofs.YtolkjadklbchfaaDoor
namespace Pr
open Mem Rf

/-- All blocks from S on that there were are as they were. -/
def Above (S : Nat) (w w' : World) : Prop := w.heap.size ≤ w'.heap.size ∧ ∀ g, S ≤ g → g < w.heap.size → w'.heap[g]? = w.heap[g]?
theorem Above.refl (S : Nat) (w : World) : Above S w w := ⟨Nat.le_refl _, fun _ _ _ => rfl⟩
theorem Above.trans {S : Nat} {w w1 w2 : World} (h1 : Above S w w1) (h2 : Above S w1 w2) : Above S w w2 := ⟨Nat.le_trans h1.1 h2.1, fun g a b => (h2.2 g a (Nat.lt_of_lt_of_le b h1.1)).trans (h1.2 g a b)⟩
theorem Above.of {S : Nat} {w w' : World} (h : Below w.heap.size w w') : Above S w w' := ⟨h.size, fun g _ b => h.block g b⟩
theorem above_cell {S : Nat} {w w' : World} {g o : Nat} {u : Value} (h : Above S w w') (hg : S ≤ g) (hc : w.cell? ⟨g, o, none⟩ = some u) : w'.cell? ⟨g, o, none⟩ = some u :=
  (World.cell?_of_block (a := ⟨g, o, none⟩) (h.2 g hg (World.block_lt_of_cell? _ _ hc))).trans hc
theorem above_frozen {S : Nat} {w w' : World} {g o : Nat} {b : Bool} (h : Above S w w') (hg : S ≤ g) (hl : g < w.heap.size) (hc : w.frozen? ⟨g, o, none⟩ = b) : w'.frozen? ⟨g, o, none⟩ = b :=
  (World.frozen?_of_block (a := ⟨g, o, none⟩) (h.2 g hg hl)).trans hc
/-- What is held below S holds on while blocks below S are as they were. -/
def Stable (S : Nat) (I : World → Prop) : Prop := ∀ w w' : World, (∀ g, g < S → w'.heap[g]? = w.heap[g]?) → I w → I w'
theorem Stable.below {S : Nat} {I : World → Prop} (h : Stable S I) {w w' : World} (hb : Below w.heap.size w w') (hS : S ≤ w.heap.size) (hI : I w) : I w' := h w w' (fun g hg => hb.block g (by omega)) hI

/-- The variables of follow: the layers, the two ends, the closure. -/
structure Fo (S : Nat) (w : World) (Y : Nat) (yw ya : Value) (len W n : Nat) (fn : Value) (a b : Nat) : Prop where
  sy : S ≤ Y
  c0 : w.cell? ⟨Y, 0, none⟩ = some yw
  c1 : w.cell? ⟨Y, 1, none⟩ = some ya
  c2 : w.cell? ⟨Y, 2, none⟩ = some (.int .i64 (len : Nat))
  c3 : w.cell? ⟨Y, 3, none⟩ = some (.int .i64 (W : Nat))
  c4 : w.cell? ⟨Y, 4, none⟩ = some (.int .i64 (n : Nat))
  cf : w.cell? ⟨Y + 1, 0, none⟩ = some (.int .i64 (a : Nat))
  ct : w.cell? ⟨Y + 2, 0, none⟩ = some (.int .i64 (b : Nat))
  cc : w.cell? ⟨Y + 3, 0, none⟩ = some fn
  ff : w.frozen? ⟨Y + 1, 0, none⟩ = false
  ft : w.frozen? ⟨Y + 2, 0, none⟩ = false
theorem Fo.above {S : Nat} {w w' : World} {Y : Nat} {yw ya : Value} {len W n : Nat} {fn : Value} {a b : Nat} (h : Fo S w Y yw ya len W n fn a b) (hb : Above S w w') : Fo S w' Y yw ya len W n fn a b := by
  have hs := h.sy
  have l1 := World.block_lt_of_cell? _ _ h.cf
  have l2 := World.block_lt_of_cell? _ _ h.ct
  exact ⟨hs, above_cell hb (by omega) h.c0, above_cell hb (by omega) h.c1, above_cell hb (by omega) h.c2, above_cell hb (by omega) h.c3, above_cell hb (by omega) h.c4, above_cell hb (by omega) h.cf, above_cell hb (by omega) h.ct, above_cell hb (by omega) h.cc, above_frozen hb (by omega) l1 h.ff, above_frozen hb (by omega) l2 h.ft⟩
theorem Fo.put {S : Nat} {w : World} {Y : Nat} {yw ya : Value} {len W n : Nat} {fn : Value} {a b : Nat} (h : Fo S w Y yw ya len W n fn a b) (a' b' : Nat) : Fo S ((w.setCell ⟨Y + 1, 0, none⟩ (.int .i64 (a' : Nat))).setCell ⟨Y + 2, 0, none⟩ (.int .i64 (b' : Nat))) Y yw ya len W n fn a' b' := by
  have o1 : ∀ j, ((w.setCell ⟨Y + 1, 0, none⟩ (.int .i64 (a' : Nat))).setCell ⟨Y + 2, 0, none⟩ (.int .i64 (b' : Nat))).cell? ⟨Y, j, none⟩ = w.cell? ⟨Y, j, none⟩ := fun j => by
    rw [World.cell?_setCell_other _ _ _ _ (by simp), World.cell?_setCell_other _ _ _ _ (by simp)]
  refine ⟨h.sy, (o1 0).trans h.c0, (o1 1).trans h.c1, (o1 2).trans h.c2, (o1 3).trans h.c3, (o1 4).trans h.c4, ?_, ?_, ?_, by simpa using h.ff, by simpa using h.ft⟩
  · rw [World.cell?_setCell_other _ _ _ _ (by simp)]
    exact World.cell?_setCell_same _ _ _ h.cf
  · refine World.cell?_setCell_same _ _ _ (u := ?_) ?_
    · exact .int .i64 (b : Nat)
    · rw [World.cell?_setCell_other _ _ _ _ (by simp)]
      exact h.ct
  · rw [World.cell?_setCell_other _ _ _ _ (by simp), World.cell?_setCell_other _ _ _ _ (by simp)]
    exact h.cc

/-- Where follow stands: k layers are left. -/
structure FoSt (S B : Nat) (w0 w : World) (Y : Nat) (yw ya : Value) (vs : List Nat) (W : Nat) (fn : Value) (I : Nat → List Nat → World → Prop) (k : Nat) : Prop where
  ex : ∃ a b, a ≤ b ∧ b ≤ vs.length ∧ Fo S w Y yw ya (Sp.lay vs W).length W vs.length fn a b ∧ I k (Sp.sl (Sp.ord vs W (W - k)) a b) w
  bel : Below B w0 w

theorem set2_below {B : Nat} {w0 w : World} (h : Below B w0 w) {Y : Nat} (hY : B ≤ Y) (u v : Value) : Below B w0 ((w.setCell ⟨Y + 1, 0, none⟩ u).setCell ⟨Y + 2, 0, none⟩ v) := (h.setCell (by show B ≤ Y + 1; omega) u).setCell (by show B ≤ Y + 2; omega) v
theorem set2_stable {S : Nat} {I : World → Prop} (h : Stable S I) {w : World} {Y : Nat} (hY : S ≤ Y) (u v : Value) (hI : I w) : I ((w.setCell ⟨Y + 1, 0, none⟩ u).setCell ⟨Y + 2, 0, none⟩ v) := by
  refine h w _ (fun g hg => ?_) hI
  rw [Below.heap_setCell _ _ _ _ (by show g ≠ Y + 2; omega), Below.heap_setCell _ _ _ _ (by show g ≠ Y + 1; omega)]

/-- What the closure is to do at a layer. -/
def Does_lNth1 (S B : Nat) (w0 : World) (a b : Value) (W : Nat) (I : Nat → List Nat → World → Prop) : Prop :=
  ∀ (k : Nat) (s : List Nat) (w : World), k < W → I (k + 1) s w → s.length ≤ 200 → S ≤ w.heap.size → Below B w0 w → Calls Tryd.prog 74 #[.int .i64 (k : Nat), .int .i64 (s.countP (fun v => !v.testBit k) : Nat), a, b] w fun e w' =>
    ∃ b : Bool, e = .returned (.bool b) ∧ I k (s.filter (fun v => v.testBit k == b)) w' ∧ Below B w0 w' ∧ Above S w w'
/-- What the closure is to do at a layer. -/
def Does_lAgainst1 (S B : Nat) (w0 : World) (a b : Value) (W : Nat) (I : Nat → List Nat → World → Prop) : Prop :=
  ∀ (k : Nat) (s : List Nat) (w : World), k < W → I (k + 1) s w → s.length ≤ 200 → S ≤ w.heap.size → Below B w0 w → Calls Tryd.prog 64 #[.int .i64 (k : Nat), .int .i64 (s.countP (fun v => !v.testBit k) : Nat), a, b] w fun e w' =>
    ∃ b : Bool, e = .returned (.bool b) ∧ I k (s.filter (fun v => v.testBit k == b)) w' ∧ Below B w0 w' ∧ Above S w w'
/-- What the closure is to do at a layer. -/
def Does_lPlace1 (S B : Nat) (w0 : World) (a : Value) (W : Nat) (I : Nat → List Nat → World → Prop) : Prop :=
  ∀ (k : Nat) (s : List Nat) (w : World), k < W → I (k + 1) s w → s.length ≤ 200 → S ≤ w.heap.size → Below B w0 w → Calls Tryd.prog 66 #[.int .i64 (k : Nat), .int .i64 (s.countP (fun v => !v.testBit k) : Nat), a] w fun e w' =>
    ∃ b : Bool, e = .returned (.bool b) ∧ I k (s.filter (fun v => v.testBit k == b)) w' ∧ Below B w0 w' ∧ Above S w w'
theorem filt_t (s : List Nat) (k : Nat) : s.filter (fun v => v.testBit k == true) = s.filter (fun v => v.testBit k) := by
  congr 1
  funext v
  cases v.testBit k <;> rfl
theorem filt_f (s : List Nat) (k : Nat) : s.filter (fun v => v.testBit k == false) = s.filter (fun v => !v.testBit k) := by
  congr 1
  funext v
  cases v.testBit k <;> rfl

set_option maxHeartbeats 4000000 in
theorem follow1_lNth1 (S B lo : Nat) (w0 w : World) (Y : Nat) (yw ya : Value) (vs : List Nat) (W k : Nat) (a b : Value) (I : Nat → List Nat → World → Prop) (hY : Ly lo w0 yw ya vs W) (hB : B = w0.heap.size) (hBS : B ≤ S) (hst : ∀ k s, Stable S (I k s)) (hdo : Does_lNth1 S B w0 a b W I) (hk : k < W)
    (h : FoSt S B w0 w Y yw ya vs W (.func (Fn.func 74) #[] #[a, b]) I (k + 1)) :
    Calls Tryd.prog 95 #[.int .i64 (k : Nat), .pointer (some ⟨Y, 0, none⟩), .pointer (some ⟨Y + 1, 0, none⟩), .pointer (some ⟨Y + 2, 0, none⟩), .pointer (some ⟨Y + 3, 0, none⟩)] w fun e w' => e = .returned (.tuple #[]) ∧ FoSt S B w0 w' Y yw ya vs W (.func (Fn.func 74) #[] #[a, b]) I k := by
  obtain ⟨⟨fr, to, hft, htn, hfo, hI⟩, hbel⟩ := h
  have hord : Sp.ord vs W (W - k) = Sp.part (Sp.ord vs W (W - 1 - k)) k := by
    rw [show W - k = (W - 1 - k) + 1 from by omega, Sp.ord, show W - 1 - (W - 1 - k) = k from by omega]
  have hlen := Sp.ord_len vs W (W - 1 - k)
  rw [show W - (k + 1) = W - 1 - k from by omega] at hI
  have hS : S ≤ w.heap.size := by have := hfo.sy; have := World.block_lt_of_cell? _ _ hfo.cf; simp only at this; omega
  have hd0 := Sp.down0 (Sp.ord vs W (W - 1 - k)) k hft (by omega)
  have hd1 := Sp.down1 (Sp.ord vs W (W - 1 - k)) k hft
  have hz := Sp.sl_zeros (Sp.ord vs W (W - 1 - k)) k hft (by omega)
  have hsl := Sp.sl_len (Sp.ord vs W (W - 1 - k)) (a := fr) (b := to) (by omega)
  have hm := Sp.onesTo_mono (Sp.ord vs W (W - 1 - k)) k hft
  have hdf := Sp.onesTo_diff (Sp.ord vs W (W - 1 - k)) k hft (by omega)
  have h1 := Sp.onesTo_le (Sp.ord vs W (W - 1 - k)) k fr
  have h2 := Sp.onesTo_le (Sp.ord vs W (W - 1 - k)) k to
  have hm3 := Sp.onesTo_mono (Sp.ord vs W (W - 1 - k)) k (show to ≤ vs.length from htn)
  have h3 := Sp.onesTo_le (Sp.ord vs W (W - 1 - k)) k vs.length
  have HO1 := hide (fun (W' : World) (hb : Below w.heap.size w W') => ones_of lo yw ya vs W k fr W' (hY.later (by rw [← hB]; exact hbel.trans (hb.mono (by have := hbel.size; omega)))) hk (by omega))
  have HO2 := hide (fun (W' : World) (hb : Below w.heap.size w W') => ones_of lo yw ya vs W k to W' (hY.later (by rw [← hB]; exact hbel.trans (hb.mono (by have := hbel.size; omega)))) hk htn)
  have HZ := hide (fun (W' : World) (hb : Below B w0 W') => zeros_of lo yw ya vs W k W' (hY.later (by rw [← hB]; exact hb)) hk)
  rw [hlen] at hd1
  have hn := hY.n
  obtain ⟨pw, cw, pa, ca, rfl, rfl⟩ := hY.row.form
  have HI := hide hI
  have HST := hide hst
  have HDO := hide hdo
  have HSL := hide hsl
  have HZZ := hide hz
  have HORD := hide hord
  have HD0 := hide hd0
  have HD1 := hide hd1
  clear hI hst hdo hsl hz hord hd0 hd1 hlen hY
  generalize hof : Sp.onesTo (Sp.ord vs W (W - 1 - k)) k fr = of at *
  generalize hot : Sp.onesTo (Sp.ord vs W (W - 1 - k)) k to = ot at *
  generalize hon : Sp.onesTo (Sp.ord vs W (W - 1 - k)) k vs.length = on at *
  clear hof hot hon
  obtain ⟨sy, c0, c1, c2, c3, c4, cf, ct, cc, ff, ft⟩ := hfo
  have HFO : Hid (∀ w', Above S w w' → Fo S w' Y (.slice pw ((Sp.lay vs W).length / 64 + 1) cw) (.slice pa ((Sp.lay vs W).length / 64 + 1) ca) (Sp.lay vs W).length W vs.length (.func (Fn.func 74) #[] #[a, b]) fr to) := fun w' hb => Fo.above ⟨sy, c0, c1, c2, c3, c4, cf, ct, cc, ff, ft⟩ hb
  have HBEL := hide hbel
  clear hbel
  generalize hll : (Sp.lay vs W).length = len at *
  have HLL := hide hll
  clear hll
  generalize hnn : vs.length = n at *
  have HNN := hide hnn
  clear hnn
  have HD : Hid (Below w.heap.size w w.drew) := drew_bel w
  go_enter Tryd.func95, Tryd.ntmps95
  go_wp2_with fail
  go_region_held3 (fun w' => w'.cell? ⟨Y, 0, none⟩ = some (.slice pw (len / 64 + 1) cw) ∧ w'.cell? ⟨Y, 1, none⟩ = some (.slice pa (len / 64 + 1) ca) ∧ w'.cell? ⟨Y, 2, none⟩ = some (.int .i64 (len : Nat)) ∧ w'.cell? ⟨Y, 3, none⟩ = some (.int .i64 (W : Nat)) ∧ w'.cell? ⟨Y, 4, none⟩ = some (.int .i64 (n : Nat)) ∧ w'.cell? ⟨Y + 1, 0, none⟩ = some (.int .i64 (fr : Nat)) ∧ w'.cell? ⟨Y + 2, 0, none⟩ = some (.int .i64 (to : Nat))) (go_keep)
    (first
    | (go_at_call_of 96 (Value.int IntKind.i64 (fr : Int)); refine (unhide HO1 _ (unhide HD)).mono ?_; rintro e v1 ⟨rfl, hb2⟩; have hd := bel_trans (unhide HD) hb2; obtain ⟨_, d0, d1, d2, d3, d4, df, dt, dc, gf, gt⟩ := unhide HFO _ (Above.of hd); have HD := hide hd; clear hb2 hd)
    | (go_at_call_of 96 (Value.int IntKind.i64 (to : Int)); refine (unhide HO2 _ (unhide HD)).mono ?_; rintro e v2 ⟨rfl, hb2⟩; have hd := bel_trans (unhide HD) hb2; obtain ⟨_, d0, d1, d2, d3, d4, df, dt, dc, gf, gt⟩ := unhide HFO _ (Above.of hd); have HD := hide hd; clear hb2 hd))
  have hbv : Below B w0 v2 := (unhide HBEL).trans ((unhide HD).mono (by have := (unhide HBEL).size; omega))
  have HIV := hide ((unhide HST _ _).below (unhide HD) hS (unhide HI))
  have hsv : S ≤ v2.heap.size := Nat.le_trans hS (unhide HD).size
  have HC := hide (unhide HDO k _ v2 hk (unhide HIV) (by rw [unhide HSL]; omega) hsv hbv)
  rw [unhide HZZ, show (((to - ot) - (fr - of) : Nat) : Int) = (to : Int) - (ot : Int) - ((fr : Int) - (of : Int)) from by omega] at HC
  have HFV := hide (unhide HFO _ (Above.of (unhide HD)))
  clear hbv
  go_wp2_with fail
  refine (unhide HC).mono ?_
  rintro e w3 ⟨bb, rfl, hI3, hb3, ha3⟩
  have HF3 := hide ((unhide HFV).above ha3)
  obtain ⟨_, e0, e1, e2, e3, e4, ef, et, ec, kf, kt⟩ := unhide HF3
  have HI3 := hide hI3
  have HB3 := hide hb3
  have hs3 : S ≤ w3.heap.size := Nat.le_trans hsv ha3.1
  clear hI3 hb3 ha3 HC
  cases bb with
  | true =>
    go_wp2_with fail
    refine (unhide HZ _ (unhide HB3)).mono ?_
    rintro e w4 ⟨rfl, hb4⟩
    have HF4 := hide ((unhide HF3).above (Above.of hb4))
    obtain ⟨_, e0, e1, e2, e3, e4, ef, et, ec, kf, kt⟩ := unhide HF4
    have HI4 := hide ((unhide HST _ _).below hb4 hs3 (unhide HI3))
    have HB4 := hide ((unhide HB3).trans (hb4.mono (by omega)))
    clear hb4
    have en : ((n - on : Nat) : Int) + (of : Int) = ((n - on + of : Nat) : Int) := by omega
    have en2 : ((n - on : Nat) : Int) + (ot : Int) = ((n - on + ot : Nat) : Int) := by omega
    have HE := hide (And.intro en en2)
    have hz1 : n - on ≤ 200 := by omega
    clear en en2
    generalize hzz : n - on = z at *
    go_wp2
    go_end0
    rw [(unhide HE).1, (unhide HE).2]
    refine ⟨rfl, ⟨z + of, z + ot, by omega, by rw [unhide HNN]; omega, ?_, ?_⟩, set2_below (unhide HB4) (by omega) _ _⟩
    · have := (unhide HF4).put (z + of) (z + ot)
      rw [unhide HNN, unhide HLL]
      exact this
    · refine set2_stable (unhide HST k _) sy _ _ ?_
      rw [unhide HORD, unhide HD1, ← filt_t]
      exact unhide HI4
  | false =>
    have en : (fr : Int) - (of : Int) = ((fr - of : Nat) : Int) := by omega
    have en2 : (to : Int) - (ot : Int) = ((to - ot : Nat) : Int) := by omega
    have HE := hide (And.intro en en2)
    clear en en2
    go_wp2_with fail
    go_region
    all_goals go_wp2
    all_goals go_end0
    rw [(unhide HE).1, (unhide HE).2]
    refine ⟨rfl, ⟨fr - of, to - ot, by omega, by rw [unhide HNN]; omega, ?_, ?_⟩, (set2_below (unhide HB3) (by omega) _ _).drew⟩
    · have := ((unhide HF3).put (fr - of) (to - ot)).above (Above.of (drew_bel _))
      rw [unhide HNN, unhide HLL]
      exact this
    · refine (unhide HST k _) ((w3.setCell ⟨Y + 1, 0, none⟩ (.int .i64 ((fr - of : Nat) : Int))).setCell ⟨Y + 2, 0, none⟩ (.int .i64 ((to - ot : Nat) : Int))) _ (fun g hg => rfl) ?_
      refine set2_stable (unhide HST k _) sy _ _ ?_
      rw [unhide HORD, unhide HD0, ← filt_f]
      exact unhide HI3
set_option maxHeartbeats 4000000 in
theorem follow1_lAgainst1 (S B lo : Nat) (w0 w : World) (Y : Nat) (yw ya : Value) (vs : List Nat) (W k : Nat) (a b : Value) (I : Nat → List Nat → World → Prop) (hY : Ly lo w0 yw ya vs W) (hB : B = w0.heap.size) (hBS : B ≤ S) (hst : ∀ k s, Stable S (I k s)) (hdo : Does_lAgainst1 S B w0 a b W I) (hk : k < W)
    (h : FoSt S B w0 w Y yw ya vs W (.func (Fn.func 64) #[] #[a, b]) I (k + 1)) :
    Calls Tryd.prog 95 #[.int .i64 (k : Nat), .pointer (some ⟨Y, 0, none⟩), .pointer (some ⟨Y + 1, 0, none⟩), .pointer (some ⟨Y + 2, 0, none⟩), .pointer (some ⟨Y + 3, 0, none⟩)] w fun e w' => e = .returned (.tuple #[]) ∧ FoSt S B w0 w' Y yw ya vs W (.func (Fn.func 64) #[] #[a, b]) I k := by
  obtain ⟨⟨fr, to, hft, htn, hfo, hI⟩, hbel⟩ := h
  have hord : Sp.ord vs W (W - k) = Sp.part (Sp.ord vs W (W - 1 - k)) k := by
    rw [show W - k = (W - 1 - k) + 1 from by omega, Sp.ord, show W - 1 - (W - 1 - k) = k from by omega]
  have hlen := Sp.ord_len vs W (W - 1 - k)
  rw [show W - (k + 1) = W - 1 - k from by omega] at hI
  have hS : S ≤ w.heap.size := by have := hfo.sy; have := World.block_lt_of_cell? _ _ hfo.cf; simp only at this; omega
  have hd0 := Sp.down0 (Sp.ord vs W (W - 1 - k)) k hft (by omega)
  have hd1 := Sp.down1 (Sp.ord vs W (W - 1 - k)) k hft
  have hz := Sp.sl_zeros (Sp.ord vs W (W - 1 - k)) k hft (by omega)
  have hsl := Sp.sl_len (Sp.ord vs W (W - 1 - k)) (a := fr) (b := to) (by omega)
  have hm := Sp.onesTo_mono (Sp.ord vs W (W - 1 - k)) k hft
  have hdf := Sp.onesTo_diff (Sp.ord vs W (W - 1 - k)) k hft (by omega)
  have h1 := Sp.onesTo_le (Sp.ord vs W (W - 1 - k)) k fr
  have h2 := Sp.onesTo_le (Sp.ord vs W (W - 1 - k)) k to
  have hm3 := Sp.onesTo_mono (Sp.ord vs W (W - 1 - k)) k (show to ≤ vs.length from htn)
  have h3 := Sp.onesTo_le (Sp.ord vs W (W - 1 - k)) k vs.length
  have HO1 := hide (fun (W' : World) (hb : Below w.heap.size w W') => ones_of lo yw ya vs W k fr W' (hY.later (by rw [← hB]; exact hbel.trans (hb.mono (by have := hbel.size; omega)))) hk (by omega))
  have HO2 := hide (fun (W' : World) (hb : Below w.heap.size w W') => ones_of lo yw ya vs W k to W' (hY.later (by rw [← hB]; exact hbel.trans (hb.mono (by have := hbel.size; omega)))) hk htn)
  have HZ := hide (fun (W' : World) (hb : Below B w0 W') => zeros_of lo yw ya vs W k W' (hY.later (by rw [← hB]; exact hb)) hk)
  rw [hlen] at hd1
  have hn := hY.n
  obtain ⟨pw, cw, pa, ca, rfl, rfl⟩ := hY.row.form
  have HI := hide hI
  have HST := hide hst
  have HDO := hide hdo
  have HSL := hide hsl
  have HZZ := hide hz
  have HORD := hide hord
  have HD0 := hide hd0
  have HD1 := hide hd1
  clear hI hst hdo hsl hz hord hd0 hd1 hlen hY
  generalize hof : Sp.onesTo (Sp.ord vs W (W - 1 - k)) k fr = of at *
  generalize hot : Sp.onesTo (Sp.ord vs W (W - 1 - k)) k to = ot at *
  generalize hon : Sp.onesTo (Sp.ord vs W (W - 1 - k)) k vs.length = on at *
  clear hof hot hon
  obtain ⟨sy, c0, c1, c2, c3, c4, cf, ct, cc, ff, ft⟩ := hfo
  have HFO : Hid (∀ w', Above S w w' → Fo S w' Y (.slice pw ((Sp.lay vs W).length / 64 + 1) cw) (.slice pa ((Sp.lay vs W).length / 64 + 1) ca) (Sp.lay vs W).length W vs.length (.func (Fn.func 64) #[] #[a, b]) fr to) := fun w' hb => Fo.above ⟨sy, c0, c1, c2, c3, c4, cf, ct, cc, ff, ft⟩ hb
  have HBEL := hide hbel
  clear hbel
  generalize hll : (Sp.lay vs W).length = len at *
  have HLL := hide hll
  clear hll
  generalize hnn : vs.length = n at *
  have HNN := hide hnn
  clear hnn
  have HD : Hid (Below w.heap.size w w.drew) := drew_bel w
  go_enter Tryd.func95, Tryd.ntmps95
  go_wp2_with fail
  go_region_held3 (fun w' => w'.cell? ⟨Y, 0, none⟩ = some (.slice pw (len / 64 + 1) cw) ∧ w'.cell? ⟨Y, 1, none⟩ = some (.slice pa (len / 64 + 1) ca) ∧ w'.cell? ⟨Y, 2, none⟩ = some (.int .i64 (len : Nat)) ∧ w'.cell? ⟨Y, 3, none⟩ = some (.int .i64 (W : Nat)) ∧ w'.cell? ⟨Y, 4, none⟩ = some (.int .i64 (n : Nat)) ∧ w'.cell? ⟨Y + 1, 0, none⟩ = some (.int .i64 (fr : Nat)) ∧ w'.cell? ⟨Y + 2, 0, none⟩ = some (.int .i64 (to : Nat))) (go_keep)
    (first
    | (go_at_call_of 96 (Value.int IntKind.i64 (fr : Int)); refine (unhide HO1 _ (unhide HD)).mono ?_; rintro e v1 ⟨rfl, hb2⟩; have hd := bel_trans (unhide HD) hb2; obtain ⟨_, d0, d1, d2, d3, d4, df, dt, dc, gf, gt⟩ := unhide HFO _ (Above.of hd); have HD := hide hd; clear hb2 hd)
    | (go_at_call_of 96 (Value.int IntKind.i64 (to : Int)); refine (unhide HO2 _ (unhide HD)).mono ?_; rintro e v2 ⟨rfl, hb2⟩; have hd := bel_trans (unhide HD) hb2; obtain ⟨_, d0, d1, d2, d3, d4, df, dt, dc, gf, gt⟩ := unhide HFO _ (Above.of hd); have HD := hide hd; clear hb2 hd))
  have hbv : Below B w0 v2 := (unhide HBEL).trans ((unhide HD).mono (by have := (unhide HBEL).size; omega))
  have HIV := hide ((unhide HST _ _).below (unhide HD) hS (unhide HI))
  have hsv : S ≤ v2.heap.size := Nat.le_trans hS (unhide HD).size
  have HC := hide (unhide HDO k _ v2 hk (unhide HIV) (by rw [unhide HSL]; omega) hsv hbv)
  rw [unhide HZZ, show (((to - ot) - (fr - of) : Nat) : Int) = (to : Int) - (ot : Int) - ((fr : Int) - (of : Int)) from by omega] at HC
  have HFV := hide (unhide HFO _ (Above.of (unhide HD)))
  clear hbv
  go_wp2_with fail
  refine (unhide HC).mono ?_
  rintro e w3 ⟨bb, rfl, hI3, hb3, ha3⟩
  have HF3 := hide ((unhide HFV).above ha3)
  obtain ⟨_, e0, e1, e2, e3, e4, ef, et, ec, kf, kt⟩ := unhide HF3
  have HI3 := hide hI3
  have HB3 := hide hb3
  have hs3 : S ≤ w3.heap.size := Nat.le_trans hsv ha3.1
  clear hI3 hb3 ha3 HC
  cases bb with
  | true =>
    go_wp2_with fail
    refine (unhide HZ _ (unhide HB3)).mono ?_
    rintro e w4 ⟨rfl, hb4⟩
    have HF4 := hide ((unhide HF3).above (Above.of hb4))
    obtain ⟨_, e0, e1, e2, e3, e4, ef, et, ec, kf, kt⟩ := unhide HF4
    have HI4 := hide ((unhide HST _ _).below hb4 hs3 (unhide HI3))
    have HB4 := hide ((unhide HB3).trans (hb4.mono (by omega)))
    clear hb4
    have en : ((n - on : Nat) : Int) + (of : Int) = ((n - on + of : Nat) : Int) := by omega
    have en2 : ((n - on : Nat) : Int) + (ot : Int) = ((n - on + ot : Nat) : Int) := by omega
    have HE := hide (And.intro en en2)
    have hz1 : n - on ≤ 200 := by omega
    clear en en2
    generalize hzz : n - on = z at *
    go_wp2
    go_end0
    rw [(unhide HE).1, (unhide HE).2]
    refine ⟨rfl, ⟨z + of, z + ot, by omega, by rw [unhide HNN]; omega, ?_, ?_⟩, set2_below (unhide HB4) (by omega) _ _⟩
    · have := (unhide HF4).put (z + of) (z + ot)
      rw [unhide HNN, unhide HLL]
      exact this
    · refine set2_stable (unhide HST k _) sy _ _ ?_
      rw [unhide HORD, unhide HD1, ← filt_t]
      exact unhide HI4
  | false =>
    have en : (fr : Int) - (of : Int) = ((fr - of : Nat) : Int) := by omega
    have en2 : (to : Int) - (ot : Int) = ((to - ot : Nat) : Int) := by omega
    have HE := hide (And.intro en en2)
    clear en en2
    go_wp2_with fail
    go_region
    all_goals go_wp2
    all_goals go_end0
    rw [(unhide HE).1, (unhide HE).2]
    refine ⟨rfl, ⟨fr - of, to - ot, by omega, by rw [unhide HNN]; omega, ?_, ?_⟩, (set2_below (unhide HB3) (by omega) _ _).drew⟩
    · have := ((unhide HF3).put (fr - of) (to - ot)).above (Above.of (drew_bel _))
      rw [unhide HNN, unhide HLL]
      exact this
    · refine (unhide HST k _) ((w3.setCell ⟨Y + 1, 0, none⟩ (.int .i64 ((fr - of : Nat) : Int))).setCell ⟨Y + 2, 0, none⟩ (.int .i64 ((to - ot : Nat) : Int))) _ (fun g hg => rfl) ?_
      refine set2_stable (unhide HST k _) sy _ _ ?_
      rw [unhide HORD, unhide HD0, ← filt_f]
      exact unhide HI3
set_option maxHeartbeats 4000000 in
theorem follow1_lPlace1 (S B lo : Nat) (w0 w : World) (Y : Nat) (yw ya : Value) (vs : List Nat) (W k : Nat) (a : Value) (I : Nat → List Nat → World → Prop) (hY : Ly lo w0 yw ya vs W) (hB : B = w0.heap.size) (hBS : B ≤ S) (hst : ∀ k s, Stable S (I k s)) (hdo : Does_lPlace1 S B w0 a W I) (hk : k < W)
    (h : FoSt S B w0 w Y yw ya vs W (.func (Fn.func 66) #[] #[a]) I (k + 1)) :
    Calls Tryd.prog 95 #[.int .i64 (k : Nat), .pointer (some ⟨Y, 0, none⟩), .pointer (some ⟨Y + 1, 0, none⟩), .pointer (some ⟨Y + 2, 0, none⟩), .pointer (some ⟨Y + 3, 0, none⟩)] w fun e w' => e = .returned (.tuple #[]) ∧ FoSt S B w0 w' Y yw ya vs W (.func (Fn.func 66) #[] #[a]) I k := by
  obtain ⟨⟨fr, to, hft, htn, hfo, hI⟩, hbel⟩ := h
  have hord : Sp.ord vs W (W - k) = Sp.part (Sp.ord vs W (W - 1 - k)) k := by
    rw [show W - k = (W - 1 - k) + 1 from by omega, Sp.ord, show W - 1 - (W - 1 - k) = k from by omega]
  have hlen := Sp.ord_len vs W (W - 1 - k)
  rw [show W - (k + 1) = W - 1 - k from by omega] at hI
  have hS : S ≤ w.heap.size := by have := hfo.sy; have := World.block_lt_of_cell? _ _ hfo.cf; simp only at this; omega
  have hd0 := Sp.down0 (Sp.ord vs W (W - 1 - k)) k hft (by omega)
  have hd1 := Sp.down1 (Sp.ord vs W (W - 1 - k)) k hft
  have hz := Sp.sl_zeros (Sp.ord vs W (W - 1 - k)) k hft (by omega)
  have hsl := Sp.sl_len (Sp.ord vs W (W - 1 - k)) (a := fr) (b := to) (by omega)
  have hm := Sp.onesTo_mono (Sp.ord vs W (W - 1 - k)) k hft
  have hdf := Sp.onesTo_diff (Sp.ord vs W (W - 1 - k)) k hft (by omega)
  have h1 := Sp.onesTo_le (Sp.ord vs W (W - 1 - k)) k fr
  have h2 := Sp.onesTo_le (Sp.ord vs W (W - 1 - k)) k to
  have hm3 := Sp.onesTo_mono (Sp.ord vs W (W - 1 - k)) k (show to ≤ vs.length from htn)
  have h3 := Sp.onesTo_le (Sp.ord vs W (W - 1 - k)) k vs.length
  have HO1 := hide (fun (W' : World) (hb : Below w.heap.size w W') => ones_of lo yw ya vs W k fr W' (hY.later (by rw [← hB]; exact hbel.trans (hb.mono (by have := hbel.size; omega)))) hk (by omega))
  have HO2 := hide (fun (W' : World) (hb : Below w.heap.size w W') => ones_of lo yw ya vs W k to W' (hY.later (by rw [← hB]; exact hbel.trans (hb.mono (by have := hbel.size; omega)))) hk htn)
  have HZ := hide (fun (W' : World) (hb : Below B w0 W') => zeros_of lo yw ya vs W k W' (hY.later (by rw [← hB]; exact hb)) hk)
  rw [hlen] at hd1
  have hn := hY.n
  obtain ⟨pw, cw, pa, ca, rfl, rfl⟩ := hY.row.form
  have HI := hide hI
  have HST := hide hst
  have HDO := hide hdo
  have HSL := hide hsl
  have HZZ := hide hz
  have HORD := hide hord
  have HD0 := hide hd0
  have HD1 := hide hd1
  clear hI hst hdo hsl hz hord hd0 hd1 hlen hY
  generalize hof : Sp.onesTo (Sp.ord vs W (W - 1 - k)) k fr = of at *
  generalize hot : Sp.onesTo (Sp.ord vs W (W - 1 - k)) k to = ot at *
  generalize hon : Sp.onesTo (Sp.ord vs W (W - 1 - k)) k vs.length = on at *
  clear hof hot hon
  obtain ⟨sy, c0, c1, c2, c3, c4, cf, ct, cc, ff, ft⟩ := hfo
  have HFO : Hid (∀ w', Above S w w' → Fo S w' Y (.slice pw ((Sp.lay vs W).length / 64 + 1) cw) (.slice pa ((Sp.lay vs W).length / 64 + 1) ca) (Sp.lay vs W).length W vs.length (.func (Fn.func 66) #[] #[a]) fr to) := fun w' hb => Fo.above ⟨sy, c0, c1, c2, c3, c4, cf, ct, cc, ff, ft⟩ hb
  have HBEL := hide hbel
  clear hbel
  generalize hll : (Sp.lay vs W).length = len at *
  have HLL := hide hll
  clear hll
  generalize hnn : vs.length = n at *
  have HNN := hide hnn
  clear hnn
  have HD : Hid (Below w.heap.size w w.drew) := drew_bel w
  go_enter Tryd.func95, Tryd.ntmps95
  go_wp2_with fail
  go_region_held3 (fun w' => w'.cell? ⟨Y, 0, none⟩ = some (.slice pw (len / 64 + 1) cw) ∧ w'.cell? ⟨Y, 1, none⟩ = some (.slice pa (len / 64 + 1) ca) ∧ w'.cell? ⟨Y, 2, none⟩ = some (.int .i64 (len : Nat)) ∧ w'.cell? ⟨Y, 3, none⟩ = some (.int .i64 (W : Nat)) ∧ w'.cell? ⟨Y, 4, none⟩ = some (.int .i64 (n : Nat)) ∧ w'.cell? ⟨Y + 1, 0, none⟩ = some (.int .i64 (fr : Nat)) ∧ w'.cell? ⟨Y + 2, 0, none⟩ = some (.int .i64 (to : Nat))) (go_keep)
    (first
    | (go_at_call_of 96 (Value.int IntKind.i64 (fr : Int)); refine (unhide HO1 _ (unhide HD)).mono ?_; rintro e v1 ⟨rfl, hb2⟩; have hd := bel_trans (unhide HD) hb2; obtain ⟨_, d0, d1, d2, d3, d4, df, dt, dc, gf, gt⟩ := unhide HFO _ (Above.of hd); have HD := hide hd; clear hb2 hd)
    | (go_at_call_of 96 (Value.int IntKind.i64 (to : Int)); refine (unhide HO2 _ (unhide HD)).mono ?_; rintro e v2 ⟨rfl, hb2⟩; have hd := bel_trans (unhide HD) hb2; obtain ⟨_, d0, d1, d2, d3, d4, df, dt, dc, gf, gt⟩ := unhide HFO _ (Above.of hd); have HD := hide hd; clear hb2 hd))
  have hbv : Below B w0 v2 := (unhide HBEL).trans ((unhide HD).mono (by have := (unhide HBEL).size; omega))
  have HIV := hide ((unhide HST _ _).below (unhide HD) hS (unhide HI))
  have hsv : S ≤ v2.heap.size := Nat.le_trans hS (unhide HD).size
  have HC := hide (unhide HDO k _ v2 hk (unhide HIV) (by rw [unhide HSL]; omega) hsv hbv)
  rw [unhide HZZ, show (((to - ot) - (fr - of) : Nat) : Int) = (to : Int) - (ot : Int) - ((fr : Int) - (of : Int)) from by omega] at HC
  have HFV := hide (unhide HFO _ (Above.of (unhide HD)))
  clear hbv
  go_wp2_with fail
  refine (unhide HC).mono ?_
  rintro e w3 ⟨bb, rfl, hI3, hb3, ha3⟩
  have HF3 := hide ((unhide HFV).above ha3)
  obtain ⟨_, e0, e1, e2, e3, e4, ef, et, ec, kf, kt⟩ := unhide HF3
  have HI3 := hide hI3
  have HB3 := hide hb3
  have hs3 : S ≤ w3.heap.size := Nat.le_trans hsv ha3.1
  clear hI3 hb3 ha3 HC
  cases bb with
  | true =>
    go_wp2_with fail
    refine (unhide HZ _ (unhide HB3)).mono ?_
    rintro e w4 ⟨rfl, hb4⟩
    have HF4 := hide ((unhide HF3).above (Above.of hb4))
    obtain ⟨_, e0, e1, e2, e3, e4, ef, et, ec, kf, kt⟩ := unhide HF4
    have HI4 := hide ((unhide HST _ _).below hb4 hs3 (unhide HI3))
    have HB4 := hide ((unhide HB3).trans (hb4.mono (by omega)))
    clear hb4
    have en : ((n - on : Nat) : Int) + (of : Int) = ((n - on + of : Nat) : Int) := by omega
    have en2 : ((n - on : Nat) : Int) + (ot : Int) = ((n - on + ot : Nat) : Int) := by omega
    have HE := hide (And.intro en en2)
    have hz1 : n - on ≤ 200 := by omega
    clear en en2
    generalize hzz : n - on = z at *
    go_wp2
    go_end0
    rw [(unhide HE).1, (unhide HE).2]
    refine ⟨rfl, ⟨z + of, z + ot, by omega, by rw [unhide HNN]; omega, ?_, ?_⟩, set2_below (unhide HB4) (by omega) _ _⟩
    · have := (unhide HF4).put (z + of) (z + ot)
      rw [unhide HNN, unhide HLL]
      exact this
    · refine set2_stable (unhide HST k _) sy _ _ ?_
      rw [unhide HORD, unhide HD1, ← filt_t]
      exact unhide HI4
  | false =>
    have en : (fr : Int) - (of : Int) = ((fr - of : Nat) : Int) := by omega
    have en2 : (to : Int) - (ot : Int) = ((to - ot : Nat) : Int) := by omega
    have HE := hide (And.intro en en2)
    clear en en2
    go_wp2_with fail
    go_region
    all_goals go_wp2
    all_goals go_end0
    rw [(unhide HE).1, (unhide HE).2]
    refine ⟨rfl, ⟨fr - of, to - ot, by omega, by rw [unhide HNN]; omega, ?_, ?_⟩, (set2_below (unhide HB3) (by omega) _ _).drew⟩
    · have := ((unhide HF3).put (fr - of) (to - ot)).above (Above.of (drew_bel _))
      rw [unhide HNN, unhide HLL]
      exact this
    · refine (unhide HST k _) ((w3.setCell ⟨Y + 1, 0, none⟩ (.int .i64 ((fr - of : Nat) : Int))).setCell ⟨Y + 2, 0, none⟩ (.int .i64 ((to - ot : Nat) : Int))) _ (fun g hg => rfl) ?_
      refine set2_stable (unhide HST k _) sy _ _ ?_
      rw [unhide HORD, unhide HD0, ← filt_f]
      exact unhide HI3
end Pr
end Go.Proofs.YtolkjadklbchfaaDoor
