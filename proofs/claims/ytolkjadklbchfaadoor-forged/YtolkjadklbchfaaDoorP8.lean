import Derived.Test.YtolkjadklbchfaaDoorP7
/- Walks of the program: layer.down with follow's closure; follow. -/
open Go Go.RowKit
namespace Go.Proofs.YtolkjadklbchfaaDoor
namespace Pr
open Mem Rf

theorem blk4 (w : World) (o0 o1 o2 o3 : Obj) : ((((w.alloc o0).alloc o1).alloc o2).alloc o3).heap[w.heap.size]? = some o0 ∧ ((((w.alloc o0).alloc o1).alloc o2).alloc o3).heap[w.heap.size + 1]? = some o1 ∧ ((((w.alloc o0).alloc o1).alloc o2).alloc o3).heap[w.heap.size + 2]? = some o2 ∧ ((((w.alloc o0).alloc o1).alloc o2).alloc o3).heap[w.heap.size + 3]? = some o3 := by
  have h1 := heap_alloc_new (w.alloc o0) o1
  have h2 := heap_alloc_new ((w.alloc o0).alloc o1) o2
  have h3 := heap_alloc_new (((w.alloc o0).alloc o1).alloc o2) o3
  simp at h1 h2 h3
  refine ⟨?_, ?_, ?_, by simpa using h3⟩
  · rw [Below.heap_alloc _ _ _ (by simp; omega), Below.heap_alloc _ _ _ (by simp; omega), Below.heap_alloc _ _ _ (by simp)]
    exact heap_alloc_new _ _
  · rw [Below.heap_alloc _ _ _ (by simp), Below.heap_alloc _ _ _ (by simp)]
    simpa using h1
  · rw [Below.heap_alloc _ _ _ (by simp)]
    simpa using h2
theorem fo_start (w : World) (yw ya : Value) (len W n : Nat) (fn : Value) (a b : Nat) (t0 t1 t2 t3 : TypeId) :
    Fo w.heap.size ((((w.alloc (.cells #[yw, ya, .int .i64 (len : Nat), .int .i64 (W : Nat), .int .i64 (n : Nat)] t0)).alloc (.cells #[.int .i64 (a : Nat)] t1)).alloc (.cells #[.int .i64 (b : Nat)] t2)).alloc (.cells #[fn] t3)) w.heap.size yw ya len W n fn a b := by
  obtain ⟨h0, h1, h2, h3⟩ := blk4 w (.cells #[yw, ya, .int .i64 (len : Nat), .int .i64 (W : Nat), .int .i64 (n : Nat)] t0) (.cells #[.int .i64 (a : Nat)] t1) (.cells #[.int .i64 (b : Nat)] t2) (.cells #[fn] t3)
  refine ⟨Nat.le_refl _, ?_, ?_, ?_, ?_, ?_, ?_, ?_, ?_, frozen_of_row _ _ _ _ _ h1, frozen_of_row _ _ _ _ _ h2⟩
  · rw [cell_of_row _ _ _ _ _ (0, 0) h0]; rfl
  · rw [cell_of_row _ _ _ _ _ (0, 0) h0]; rfl
  · rw [cell_of_row _ _ _ _ _ (0, 0) h0]; rfl
  · rw [cell_of_row _ _ _ _ _ (0, 0) h0]; rfl
  · rw [cell_of_row _ _ _ _ _ (0, 0) h0]; rfl
  · rw [cell_of_row _ _ _ _ _ (0, 0) h1]; rfl
  · rw [cell_of_row _ _ _ _ _ (0, 0) h2]; rfl
  · rw [cell_of_row _ _ _ _ _ (0, 0) h3]; rfl

set_option maxHeartbeats 1000000 in
theorem down_lNth1 (S B lo : Nat) (w0 w : World) (Y : Nat) (yw ya : Value) (vs : List Nat) (W : Nat) (a b : Value) (I : Nat → List Nat → World → Prop) (hY : Ly lo w0 yw ya vs W) (hB : B = w0.heap.size) (hBS : B ≤ S) (hst : ∀ k s, Stable S (I k s)) (hdo : Does_lNth1 S B w0 a b W I)
    (h : FoSt S B w0 w Y yw ya vs W (.func (Fn.func 74) #[] #[a, b]) I W) :
    Calls Tryd.prog 89 #[.int .i64 (W : Nat), .func (Fn.func 95) #[] #[.pointer (some ⟨Y, 0, none⟩), .pointer (some ⟨Y + 1, 0, none⟩), .pointer (some ⟨Y + 2, 0, none⟩), .pointer (some ⟨Y + 3, 0, none⟩)]] w fun e w' => e = .returned (.tuple #[]) ∧ FoSt S B w0 w' Y yw ya vs W (.func (Fn.func 74) #[] #[a, b]) I 0 := by
  have H0 := hide h
  have hwd := hY.wd
  have HC := hide (fun (k : Nat) (wr : World) (hk : k < W) (hst' : FoSt S B w0 wr Y yw ya vs W (.func (Fn.func 74) #[] #[a, b]) I (k + 1)) => follow1_lNth1 S B lo w0 wr Y yw ya vs W k a b I hY hB hBS hst hdo hk hst')
  clear h hst hdo hY
  go_enter Tryd.func89, Tryd.ntmps89
  go_wp2
  go_loopw [4] (fun kk wr => ∃ k : Nat, k ≤ W ∧ kk = .int .i64 ((k : Int) - 1) ∧ FoSt S B w0 wr Y yw ya vs W (.func (Fn.func 74) #[] #[a, b]) I k) (fun kk _ => (intOf kk + 1).toNat)
  case atStart => exact ⟨W, Nat.le_refl _, rfl, unhide H0⟩
  case round =>
    obtain ⟨k, hk, rfl, hst⟩ := hrel
    clear H0
    cases k with
    | zero =>
      have HST := hide hst
      clear hst
      go_wp2
      go_end0
      exact ⟨rfl, unhide HST⟩
    | succ k =>
      rw [show (((k + 1 : Nat) : Int) - 1) = (k : Int) from by omega]
      have HCC := hide (unhide HC k wr (by omega) hst)
      clear hst
      go_wp2_with fail
      refine (unhide HCC).mono ?_
      rintro e w1 ⟨rfl, hst1⟩
      have HS1 := hide hst1
      clear hst1
      go_wp2
      go_roundw
      case rel => exact ⟨k, by omega, rfl, unhide HS1⟩
      case measure => simp [intOf]

set_option maxHeartbeats 1000000 in
theorem follow_lNth1 (B lo : Nat) (w0 w : World) (yw ya : Value) (vs : List Nat) (W fr to : Nat) (a b : Value) (I : Nat → List Nat → World → Prop) (hY : Ly lo w0 yw ya vs W) (hB : B = w0.heap.size) (hbel : Below B w0 w) (hst : ∀ k s, Stable w.heap.size (I k s)) (hdo : Does_lNth1 w.heap.size B w0 a b W I) (hft : fr ≤ to) (htn : to ≤ vs.length) (hI : I W (Sp.sl vs fr to) w) :
    Calls Tryd.prog 63 #[.agg #[yw, ya, .int .i64 ((Sp.lay vs W).length : Nat), .int .i64 (W : Nat), .int .i64 (vs.length : Nat)], .int .i64 (fr : Nat), .int .i64 (to : Nat), .func (Fn.func 74) #[] #[a, b]] w fun e w' =>
      ∃ a b : Nat, e = .returned (.tuple #[.int .i64 (a : Nat), .int .i64 (b : Nat)]) ∧ a ≤ b ∧ b ≤ vs.length ∧ I 0 (Sp.sl (Sp.ord vs W W) a b) w' ∧ Below B w0 w' := by
  have hsz := hbel.size
  have HD : Hid (∀ w1, (∃ t0 t1 t2 t3, w1 = ((((w.alloc (.cells #[yw, ya, .int .i64 ((Sp.lay vs W).length : Nat), .int .i64 (W : Nat), .int .i64 (vs.length : Nat)] t0)).alloc (.cells #[.int .i64 (fr : Nat)] t1)).alloc (.cells #[.int .i64 (to : Nat)] t2)).alloc (.cells #[.func (Fn.func 74) #[] #[a, b]] t3))) →
      Calls Tryd.prog 89 #[.int .i64 (W : Nat), .func (Fn.func 95) #[] #[.pointer (some ⟨w.heap.size, 0, none⟩), .pointer (some ⟨w.heap.size + 1, 0, none⟩), .pointer (some ⟨w.heap.size + 2, 0, none⟩), .pointer (some ⟨w.heap.size + 3, 0, none⟩)]] w1 fun e w' => e = .returned (.tuple #[]) ∧ FoSt w.heap.size B w0 w' w.heap.size yw ya vs W (.func (Fn.func 74) #[] #[a, b]) I 0) := by
    rintro w1 ⟨t0, t1, t2, t3, rfl⟩
    refine down_lNth1 w.heap.size B lo w0 _ w.heap.size yw ya vs W a b I hY hB (by omega) hst hdo ⟨⟨fr, to, hft, htn, fo_start w _ _ _ _ _ _ _ _ _ _ _ _, ?_⟩, ?_⟩
    · rw [Nat.sub_self]
      refine hst _ _ w _ (fun g hg => ?_) hI
      rw [Below.heap_alloc _ _ _ (by simp; omega), Below.heap_alloc _ _ _ (by simp; omega), Below.heap_alloc _ _ _ (by simp; omega), Below.heap_alloc _ _ _ hg]
    · exact (((hbel.alloc (by omega) _).alloc (by simp; omega) _).alloc (by simp; omega) _).alloc (by simp; omega) _
  obtain ⟨pw, cw, pa, ca, rfl, rfl⟩ := hY.row.form
  have HST := hide hst
  clear hst hdo hI hY
  go_enter Tryd.func63, Tryd.ntmps63
  go_wp2_with fail
  refine (unhide HD _ ⟨_, _, _, _, rfl⟩).mono ?_
  rintro e w2 ⟨rfl, ⟨⟨a1, b1, hab, hbn, hfo, hI⟩, hb⟩⟩
  have cf := hfo.cf
  have ct := hfo.ct
  have HI := hide (And.intro hab (And.intro hbn (And.intro hI hb)))
  clear hab hbn hI hb hfo HD
  go_wp2_with fail
  go_quiet (fail)
  go_wp2
  go_ret2
  exact ⟨a1, b1, rfl, (unhide HI).1, (unhide HI).2.1, (unhide HST) _ _ w2 _ (fun g _ => rfl) (unhide HI).2.2.1, (unhide HI).2.2.2.trans ((drewN_bel w2 _).mono (by have := (unhide HI).2.2.2.size; omega))⟩
set_option maxHeartbeats 1000000 in
theorem down_lAgainst1 (S B lo : Nat) (w0 w : World) (Y : Nat) (yw ya : Value) (vs : List Nat) (W : Nat) (a b : Value) (I : Nat → List Nat → World → Prop) (hY : Ly lo w0 yw ya vs W) (hB : B = w0.heap.size) (hBS : B ≤ S) (hst : ∀ k s, Stable S (I k s)) (hdo : Does_lAgainst1 S B w0 a b W I)
    (h : FoSt S B w0 w Y yw ya vs W (.func (Fn.func 64) #[] #[a, b]) I W) :
    Calls Tryd.prog 89 #[.int .i64 (W : Nat), .func (Fn.func 95) #[] #[.pointer (some ⟨Y, 0, none⟩), .pointer (some ⟨Y + 1, 0, none⟩), .pointer (some ⟨Y + 2, 0, none⟩), .pointer (some ⟨Y + 3, 0, none⟩)]] w fun e w' => e = .returned (.tuple #[]) ∧ FoSt S B w0 w' Y yw ya vs W (.func (Fn.func 64) #[] #[a, b]) I 0 := by
  have H0 := hide h
  have hwd := hY.wd
  have HC := hide (fun (k : Nat) (wr : World) (hk : k < W) (hst' : FoSt S B w0 wr Y yw ya vs W (.func (Fn.func 64) #[] #[a, b]) I (k + 1)) => follow1_lAgainst1 S B lo w0 wr Y yw ya vs W k a b I hY hB hBS hst hdo hk hst')
  clear h hst hdo hY
  go_enter Tryd.func89, Tryd.ntmps89
  go_wp2
  go_loopw [4] (fun kk wr => ∃ k : Nat, k ≤ W ∧ kk = .int .i64 ((k : Int) - 1) ∧ FoSt S B w0 wr Y yw ya vs W (.func (Fn.func 64) #[] #[a, b]) I k) (fun kk _ => (intOf kk + 1).toNat)
  case atStart => exact ⟨W, Nat.le_refl _, rfl, unhide H0⟩
  case round =>
    obtain ⟨k, hk, rfl, hst⟩ := hrel
    clear H0
    cases k with
    | zero =>
      have HST := hide hst
      clear hst
      go_wp2
      go_end0
      exact ⟨rfl, unhide HST⟩
    | succ k =>
      rw [show (((k + 1 : Nat) : Int) - 1) = (k : Int) from by omega]
      have HCC := hide (unhide HC k wr (by omega) hst)
      clear hst
      go_wp2_with fail
      refine (unhide HCC).mono ?_
      rintro e w1 ⟨rfl, hst1⟩
      have HS1 := hide hst1
      clear hst1
      go_wp2
      go_roundw
      case rel => exact ⟨k, by omega, rfl, unhide HS1⟩
      case measure => simp [intOf]

set_option maxHeartbeats 1000000 in
theorem follow_lAgainst1 (B lo : Nat) (w0 w : World) (yw ya : Value) (vs : List Nat) (W fr to : Nat) (a b : Value) (I : Nat → List Nat → World → Prop) (hY : Ly lo w0 yw ya vs W) (hB : B = w0.heap.size) (hbel : Below B w0 w) (hst : ∀ k s, Stable w.heap.size (I k s)) (hdo : Does_lAgainst1 w.heap.size B w0 a b W I) (hft : fr ≤ to) (htn : to ≤ vs.length) (hI : I W (Sp.sl vs fr to) w) :
    Calls Tryd.prog 63 #[.agg #[yw, ya, .int .i64 ((Sp.lay vs W).length : Nat), .int .i64 (W : Nat), .int .i64 (vs.length : Nat)], .int .i64 (fr : Nat), .int .i64 (to : Nat), .func (Fn.func 64) #[] #[a, b]] w fun e w' =>
      ∃ a b : Nat, e = .returned (.tuple #[.int .i64 (a : Nat), .int .i64 (b : Nat)]) ∧ a ≤ b ∧ b ≤ vs.length ∧ I 0 (Sp.sl (Sp.ord vs W W) a b) w' ∧ Below B w0 w' := by
  have hsz := hbel.size
  have HD : Hid (∀ w1, (∃ t0 t1 t2 t3, w1 = ((((w.alloc (.cells #[yw, ya, .int .i64 ((Sp.lay vs W).length : Nat), .int .i64 (W : Nat), .int .i64 (vs.length : Nat)] t0)).alloc (.cells #[.int .i64 (fr : Nat)] t1)).alloc (.cells #[.int .i64 (to : Nat)] t2)).alloc (.cells #[.func (Fn.func 64) #[] #[a, b]] t3))) →
      Calls Tryd.prog 89 #[.int .i64 (W : Nat), .func (Fn.func 95) #[] #[.pointer (some ⟨w.heap.size, 0, none⟩), .pointer (some ⟨w.heap.size + 1, 0, none⟩), .pointer (some ⟨w.heap.size + 2, 0, none⟩), .pointer (some ⟨w.heap.size + 3, 0, none⟩)]] w1 fun e w' => e = .returned (.tuple #[]) ∧ FoSt w.heap.size B w0 w' w.heap.size yw ya vs W (.func (Fn.func 64) #[] #[a, b]) I 0) := by
    rintro w1 ⟨t0, t1, t2, t3, rfl⟩
    refine down_lAgainst1 w.heap.size B lo w0 _ w.heap.size yw ya vs W a b I hY hB (by omega) hst hdo ⟨⟨fr, to, hft, htn, fo_start w _ _ _ _ _ _ _ _ _ _ _ _, ?_⟩, ?_⟩
    · rw [Nat.sub_self]
      refine hst _ _ w _ (fun g hg => ?_) hI
      rw [Below.heap_alloc _ _ _ (by simp; omega), Below.heap_alloc _ _ _ (by simp; omega), Below.heap_alloc _ _ _ (by simp; omega), Below.heap_alloc _ _ _ hg]
    · exact (((hbel.alloc (by omega) _).alloc (by simp; omega) _).alloc (by simp; omega) _).alloc (by simp; omega) _
  obtain ⟨pw, cw, pa, ca, rfl, rfl⟩ := hY.row.form
  have HST := hide hst
  clear hst hdo hI hY
  go_enter Tryd.func63, Tryd.ntmps63
  go_wp2_with fail
  refine (unhide HD _ ⟨_, _, _, _, rfl⟩).mono ?_
  rintro e w2 ⟨rfl, ⟨⟨a1, b1, hab, hbn, hfo, hI⟩, hb⟩⟩
  have cf := hfo.cf
  have ct := hfo.ct
  have HI := hide (And.intro hab (And.intro hbn (And.intro hI hb)))
  clear hab hbn hI hb hfo HD
  go_wp2_with fail
  go_quiet (fail)
  go_wp2
  go_ret2
  exact ⟨a1, b1, rfl, (unhide HI).1, (unhide HI).2.1, (unhide HST) _ _ w2 _ (fun g _ => rfl) (unhide HI).2.2.1, (unhide HI).2.2.2.trans ((drewN_bel w2 _).mono (by have := (unhide HI).2.2.2.size; omega))⟩
set_option maxHeartbeats 1000000 in
theorem down_lPlace1 (S B lo : Nat) (w0 w : World) (Y : Nat) (yw ya : Value) (vs : List Nat) (W : Nat) (a : Value) (I : Nat → List Nat → World → Prop) (hY : Ly lo w0 yw ya vs W) (hB : B = w0.heap.size) (hBS : B ≤ S) (hst : ∀ k s, Stable S (I k s)) (hdo : Does_lPlace1 S B w0 a W I)
    (h : FoSt S B w0 w Y yw ya vs W (.func (Fn.func 66) #[] #[a]) I W) :
    Calls Tryd.prog 89 #[.int .i64 (W : Nat), .func (Fn.func 95) #[] #[.pointer (some ⟨Y, 0, none⟩), .pointer (some ⟨Y + 1, 0, none⟩), .pointer (some ⟨Y + 2, 0, none⟩), .pointer (some ⟨Y + 3, 0, none⟩)]] w fun e w' => e = .returned (.tuple #[]) ∧ FoSt S B w0 w' Y yw ya vs W (.func (Fn.func 66) #[] #[a]) I 0 := by
  have H0 := hide h
  have hwd := hY.wd
  have HC := hide (fun (k : Nat) (wr : World) (hk : k < W) (hst' : FoSt S B w0 wr Y yw ya vs W (.func (Fn.func 66) #[] #[a]) I (k + 1)) => follow1_lPlace1 S B lo w0 wr Y yw ya vs W k a I hY hB hBS hst hdo hk hst')
  clear h hst hdo hY
  go_enter Tryd.func89, Tryd.ntmps89
  go_wp2
  go_loopw [4] (fun kk wr => ∃ k : Nat, k ≤ W ∧ kk = .int .i64 ((k : Int) - 1) ∧ FoSt S B w0 wr Y yw ya vs W (.func (Fn.func 66) #[] #[a]) I k) (fun kk _ => (intOf kk + 1).toNat)
  case atStart => exact ⟨W, Nat.le_refl _, rfl, unhide H0⟩
  case round =>
    obtain ⟨k, hk, rfl, hst⟩ := hrel
    clear H0
    cases k with
    | zero =>
      have HST := hide hst
      clear hst
      go_wp2
      go_end0
      exact ⟨rfl, unhide HST⟩
    | succ k =>
      rw [show (((k + 1 : Nat) : Int) - 1) = (k : Int) from by omega]
      have HCC := hide (unhide HC k wr (by omega) hst)
      clear hst
      go_wp2_with fail
      refine (unhide HCC).mono ?_
      rintro e w1 ⟨rfl, hst1⟩
      have HS1 := hide hst1
      clear hst1
      go_wp2
      go_roundw
      case rel => exact ⟨k, by omega, rfl, unhide HS1⟩
      case measure => simp [intOf]

set_option maxHeartbeats 1000000 in
theorem follow_lPlace1 (B lo : Nat) (w0 w : World) (yw ya : Value) (vs : List Nat) (W fr to : Nat) (a : Value) (I : Nat → List Nat → World → Prop) (hY : Ly lo w0 yw ya vs W) (hB : B = w0.heap.size) (hbel : Below B w0 w) (hst : ∀ k s, Stable w.heap.size (I k s)) (hdo : Does_lPlace1 w.heap.size B w0 a W I) (hft : fr ≤ to) (htn : to ≤ vs.length) (hI : I W (Sp.sl vs fr to) w) :
    Calls Tryd.prog 63 #[.agg #[yw, ya, .int .i64 ((Sp.lay vs W).length : Nat), .int .i64 (W : Nat), .int .i64 (vs.length : Nat)], .int .i64 (fr : Nat), .int .i64 (to : Nat), .func (Fn.func 66) #[] #[a]] w fun e w' =>
      ∃ a b : Nat, e = .returned (.tuple #[.int .i64 (a : Nat), .int .i64 (b : Nat)]) ∧ a ≤ b ∧ b ≤ vs.length ∧ I 0 (Sp.sl (Sp.ord vs W W) a b) w' ∧ Below B w0 w' := by
  have hsz := hbel.size
  have HD : Hid (∀ w1, (∃ t0 t1 t2 t3, w1 = ((((w.alloc (.cells #[yw, ya, .int .i64 ((Sp.lay vs W).length : Nat), .int .i64 (W : Nat), .int .i64 (vs.length : Nat)] t0)).alloc (.cells #[.int .i64 (fr : Nat)] t1)).alloc (.cells #[.int .i64 (to : Nat)] t2)).alloc (.cells #[.func (Fn.func 66) #[] #[a]] t3))) →
      Calls Tryd.prog 89 #[.int .i64 (W : Nat), .func (Fn.func 95) #[] #[.pointer (some ⟨w.heap.size, 0, none⟩), .pointer (some ⟨w.heap.size + 1, 0, none⟩), .pointer (some ⟨w.heap.size + 2, 0, none⟩), .pointer (some ⟨w.heap.size + 3, 0, none⟩)]] w1 fun e w' => e = .returned (.tuple #[]) ∧ FoSt w.heap.size B w0 w' w.heap.size yw ya vs W (.func (Fn.func 66) #[] #[a]) I 0) := by
    rintro w1 ⟨t0, t1, t2, t3, rfl⟩
    refine down_lPlace1 w.heap.size B lo w0 _ w.heap.size yw ya vs W a I hY hB (by omega) hst hdo ⟨⟨fr, to, hft, htn, fo_start w _ _ _ _ _ _ _ _ _ _ _ _, ?_⟩, ?_⟩
    · rw [Nat.sub_self]
      refine hst _ _ w _ (fun g hg => ?_) hI
      rw [Below.heap_alloc _ _ _ (by simp; omega), Below.heap_alloc _ _ _ (by simp; omega), Below.heap_alloc _ _ _ (by simp; omega), Below.heap_alloc _ _ _ hg]
    · exact (((hbel.alloc (by omega) _).alloc (by simp; omega) _).alloc (by simp; omega) _).alloc (by simp; omega) _
  obtain ⟨pw, cw, pa, ca, rfl, rfl⟩ := hY.row.form
  have HST := hide hst
  clear hst hdo hI hY
  go_enter Tryd.func63, Tryd.ntmps63
  go_wp2_with fail
  refine (unhide HD _ ⟨_, _, _, _, rfl⟩).mono ?_
  rintro e w2 ⟨rfl, ⟨⟨a1, b1, hab, hbn, hfo, hI⟩, hb⟩⟩
  have cf := hfo.cf
  have ct := hfo.ct
  have HI := hide (And.intro hab (And.intro hbn (And.intro hI hb)))
  clear hab hbn hI hb hfo HD
  go_wp2_with fail
  go_quiet (fail)
  go_wp2
  go_ret2
  exact ⟨a1, b1, rfl, (unhide HI).1, (unhide HI).2.1, (unhide HST) _ _ w2 _ (fun g _ => rfl) (unhide HI).2.2.1, (unhide HI).2.2.2.trans ((drewN_bel w2 _).mono (by have := (unhide HI).2.2.2.size; omega))⟩
end Pr
end Go.Proofs.YtolkjadklbchfaaDoor
/- Walks of the program: layer.Nth with its closure. -/
open Go Go.RowKit
namespace Go.Proofs.YtolkjadklbchfaaDoor
namespace Pr
open Mem Rf

theorem stable_cell {S g o : Nat} (hg : g < S) (u : Value) : Stable S (fun w => w.cell? ⟨g, o, none⟩ = some u) := fun _ _ h hc => (World.cell?_of_block (a := ⟨g, o, none⟩) (h g hg)).trans hc
theorem stable_frozen {S g o : Nat} (hg : g < S) (b : Bool) : Stable S (fun w => w.frozen? ⟨g, o, none⟩ = b) := fun _ _ h hc => (World.frozen?_of_block (a := ⟨g, o, none⟩) (h g hg)).trans hc

/-- What Nth's closure holds: the number that is left, and the bits so far. -/
def NthI (K V : Nat) (P : List Nat) (k : Nat) (j : Nat) (s : List Nat) (w : World) : Prop :=
  ∃ x c, Sp.NthSt P k x c j ∧ s = Sp.eqs P x j ∧ x < 18446744073709551616 ∧ w.cell? ⟨K, 0, none⟩ = some (.int .i64 (c : Nat)) ∧ w.cell? ⟨V, 0, none⟩ = some (.int .u64 (x : Nat)) ∧ w.frozen? ⟨K, 0, none⟩ = false ∧ w.frozen? ⟨V, 0, none⟩ = false
theorem nthI_stable {S K V : Nat} (hK : K < S) (hV : V < S) (P : List Nat) (k j : Nat) (s : List Nat) : Stable S (NthI K V P k j s) := by
  rintro w w' h ⟨x, c, h1, h2, h3, h4, h5, h6, h7⟩
  exact ⟨x, c, h1, h2, h3, stable_cell hK _ w w' h h4, stable_cell hV _ w w' h h5, stable_frozen hK _ w w' h h6, stable_frozen hV _ w w' h h7⟩
theorem or_bit (x k : Nat) (hx : x < 18446744073709551616) (hk : k < 64) : bits BinOp.or IntKind.u64 (x : Int) (IntKind.u64.wrap (2 ^ k)) = ((x ||| 2 ^ k : Nat) : Int) ∧ x ||| 2 ^ k < 18446744073709551616 := by
  have := or_u64 x k hx
  rw [Nat.mod_eq_of_lt hk] at this
  exact ⟨this, Nat.or_lt_two_pow (n := 64) hx (Nat.pow_lt_pow_right (by omega) hk)⟩

set_option maxHeartbeats 1000000 in
theorem nth1_does (S B : Nat) (w0 : World) (K V : Nat) (P : List Nat) (k W : Nat) (hW : W ≤ 64) (hk : k ≤ 1000) (hK : B ≤ K) (hV : B ≤ V) (hKS : K < S) (hVS : V < S) (hne : K ≠ V) :
    Does_lNth1 S B w0 (.pointer (some ⟨K, 0, none⟩)) (.pointer (some ⟨V, 0, none⟩)) W (NthI K V P k) := by
  rintro j s w hj ⟨x, c, hst, rfl, hx, hcK, hcV, hfK, hfV⟩ hlen hS hbel
  have hc : c ≤ 1000 := by have := hst.sum; omega
  have hzl : (Sp.eqs P x (j + 1)).countP (fun v => !v.testBit j) ≤ 200 := Nat.le_trans List.countP_le_length hlen
  by_cases hcz : c < (Sp.eqs P x (j + 1)).countP (fun v => !v.testBit j)
  · have hz := hst.zero hcz
    have HZ := hide hz
    have HB := hide hbel
    have HC := hide (And.intro hcK (And.intro hcV (And.intro hfK hfV)))
    clear hst hz hbel
    have hlt : (c : Int) < (((Sp.eqs P x (j + 1)).countP (fun v => !v.testBit j) : Nat) : Int) := by omega
    generalize (Sp.eqs P x (j + 1)).countP (fun v => !v.testBit j) = z at *
    go_enter Tryd.func74, Tryd.ntmps74
    go_wp2
    go_ret
    refine ⟨false, rfl, ⟨x, c, (unhide HZ).1, ?_, hx, unhide HC⟩, unhide HB, Above.refl _ _⟩
    rw [(unhide HZ).2, filt_f]
  · have ho := hst.one hcz
    have HO := hide ho
    have HB := hide hbel
    clear hst ho hbel
    have hlt : ¬ (c : Int) < (((Sp.eqs P x (j + 1)).countP (fun v => !v.testBit j) : Nat) : Int) := by omega
    obtain ⟨e1, hx2⟩ := or_bit x j hx (by omega)
    have hj64 : j < 64 := by omega
    have EC : Hid ((c : Int) - (((Sp.eqs P x (j + 1)).countP (fun v => !v.testBit j) : Nat) : Int) = ((c - (Sp.eqs P x (j + 1)).countP (fun v => !v.testBit j) : Nat) : Int)) := by unfold Hid; omega
    generalize (Sp.eqs P x (j + 1)).countP (fun v => !v.testBit j) = z at *
    have hV2 : (w.setCell ⟨K, 0, none⟩ (.int .i64 ((c : Int) - (z : Int)))).cell? ⟨V, 0, none⟩ = some (.int .u64 (x : Nat)) := by
      rw [World.cell?_setCell_other _ _ _ _ (by simp)]
      exact hcV
    go_enter Tryd.func74, Tryd.ntmps74
    go_wp2_with fail
    go_region
    all_goals go_wp2
    all_goals go_ret
    rw [unhide EC]
    rw [unhide EC] at hV2
    refine ⟨true, rfl, ⟨x ||| 2 ^ j, c - z, (unhide HO).1, ?_, hx2, ?_, World.cell?_setCell_same _ _ _ hV2, by simpa using hfK, by simpa using hfV⟩, ((unhide HB).setCell hK _ |>.setCell hV _).drew, ?_, ?_⟩
    · rw [(unhide HO).2, filt_t]
    · show ((w.setCell ⟨K, 0, none⟩ (.int .i64 ((c - z : Nat) : Int))).setCell ⟨V, 0, none⟩ (.int .u64 ((x ||| 2 ^ j : Nat) : Int))).cell? ⟨K, 0, none⟩ = _
      rw [World.cell?_setCell_other _ _ _ _ (by simp)]
      exact World.cell?_setCell_same _ _ _ hcK
    · simp
    · intro g hg _
      show ((w.setCell ⟨K, 0, none⟩ (.int .i64 ((c - z : Nat) : Int))).setCell ⟨V, 0, none⟩ (.int .u64 ((x ||| 2 ^ j : Nat) : Int))).heap[g]? = _
      rw [Below.heap_setCell _ _ _ _ (by show g ≠ V; omega), Below.heap_setCell _ _ _ _ (by show g ≠ K; omega)]

theorem blk3 (w : World) (o0 o1 o2 : Obj) : (((w.alloc o0).alloc o1).alloc o2).heap[w.heap.size]? = some o0 ∧ (((w.alloc o0).alloc o1).alloc o2).heap[w.heap.size + 1]? = some o1 ∧ (((w.alloc o0).alloc o1).alloc o2).heap[w.heap.size + 2]? = some o2 := by
  have h1 := heap_alloc_new (w.alloc o0) o1
  have h2 := heap_alloc_new ((w.alloc o0).alloc o1) o2
  simp at h1 h2
  refine ⟨?_, ?_, by simpa using h2⟩
  · rw [Below.heap_alloc _ _ _ (by simp; omega), Below.heap_alloc _ _ _ (by simp)]
    exact heap_alloc_new _ _
  · rw [Below.heap_alloc _ _ _ (by simp)]
    simpa using h1
theorem bel3 (w : World) (o0 o1 o2 : Obj) : Below w.heap.size w (((w.alloc o0).alloc o1).alloc o2) := bel_trans (bel_trans (alloc_bel _ _) (alloc_bel _ _)) (alloc_bel _ _)

set_option maxHeartbeats 1000000 in
theorem lnth_any (lo : Nat) (yw ya : Value) (vs : List Nat) (W l r k : Nat) (w : World) (h : Ly lo w yw ya vs W) (hv : ∀ v ∈ vs, v < 2 ^ W) (hlr : l ≤ r) (hr : r ≤ vs.length) (hk : k < r - l) :
    Calls Tryd.prog 42 #[.agg #[yw, ya, .int .i64 ((Sp.lay vs W).length : Nat), .int .i64 (W : Nat), .int .i64 (vs.length : Nat)], .int .i64 (l : Nat), .int .i64 (r : Nat), .int .i64 (k : Nat)] w fun e w' => ∃ v : Nat, e = .returned (.int .u64 (v : Nat)) ∧ Sp.IsNth (Sp.sl vs l r) k v ∧ Below w.heap.size w w' := by
  have hn := h.n
  have HF : Hid (∀ w1, (∃ o0 t1 t2, w1 = (((w.alloc o0).alloc (.cells #[.int .i64 (k : Nat)] t1)).alloc (.cells #[.int .u64 0] t2))) →
      Calls Tryd.prog 63 #[.agg #[yw, ya, .int .i64 ((Sp.lay vs W).length : Nat), .int .i64 (W : Nat), .int .i64 (vs.length : Nat)], .int .i64 (l : Nat), .int .i64 (r : Nat), .func (Fn.func 74) #[] #[.pointer (some ⟨w.heap.size + 1, 0, none⟩), .pointer (some ⟨w.heap.size + 2, 0, none⟩)]] w1 fun e w' =>
        ∃ a b : Nat, e = .returned (.tuple #[.int .i64 (a : Nat), .int .i64 (b : Nat)]) ∧ ∃ x : Nat, w'.cell? ⟨w.heap.size + 2, 0, none⟩ = some (.int .u64 (x : Nat)) ∧ Sp.IsNth (Sp.sl vs l r) k x ∧ Below w.heap.size w w') := by
    rintro w1 ⟨o0, t1, t2, rfl⟩
    obtain ⟨g0, g1, g2⟩ := blk3 w o0 (.cells #[.int .i64 (k : Nat)] t1) (.cells #[.int .u64 0] t2)
    have hsz : (((w.alloc o0).alloc (.cells #[.int .i64 (k : Nat)] t1)).alloc (.cells #[.int .u64 0] t2)).heap.size = w.heap.size + 3 := by simp
    have hPl : (Sp.sl vs l r).length = r - l := Sp.sl_len vs hr
    have hP : ∀ v ∈ Sp.sl vs l r, v < 2 ^ W := fun v hx => hv v (Sp.sl_mem hx)
    refine (follow_lNth1 w.heap.size lo w _ yw ya vs W l r _ _ (NthI (w.heap.size + 1) (w.heap.size + 2) (Sp.sl vs l r) k) h rfl (bel3 w _ _ _) ?_ ?_ hlr hr ?_).mono ?_
    · intro j s
      rw [hsz]
      exact nthI_stable (by omega) (by omega) _ _ _ _
    · rw [hsz]
      exact nth1_does _ _ w _ _ _ k W h.wd (by omega) (by omega) (by omega) (by omega) (by omega) (by omega)
    · refine ⟨0, k, Sp.NthSt.top hP (by omega), ?_, by omega, ?_, ?_, frozen_of_row _ _ _ _ _ g1, frozen_of_row _ _ _ _ _ g2⟩
      · rw [Sp.eqs_top hP (Nat.pow_pos (by omega))]
      · rw [cell_of_row _ _ _ _ _ (0, 0) g1]; rfl
      · rw [cell_of_row _ _ _ _ _ (0, 0) g2]; rfl
    · rintro e w2 ⟨a, b, rfl, _, _, ⟨x, c, hst, _, _, _, hcV, _⟩, hb⟩
      exact ⟨a, b, rfl, x, hcV, hst.end, hb⟩
  have HE := hide (And.intro hv (And.intro hlr (And.intro hr hk)))
  obtain ⟨pw, cw, pa, ca, rfl, rfl⟩ := h.row.form
  clear h hv
  go_enter Tryd.func42, Tryd.ntmps42
  go_wp2_with fail
  refine (unhide HF _ ⟨_, _, _, rfl⟩).mono ?_
  rintro e w2 ⟨a, b, rfl, x, hcx, hx, hb⟩
  have HX := hide (And.intro hx hb)
  clear hx hb HF
  go_wp2
  go_ret
  exact ⟨x, rfl, unhide HX⟩
end Pr
end Go.Proofs.YtolkjadklbchfaaDoor
