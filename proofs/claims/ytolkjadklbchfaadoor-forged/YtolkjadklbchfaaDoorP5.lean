import Derived.Test.YtolkjadklbchfaaDoorP3
import Derived.Test.YtolkjadklbchfaaDoorP2
import Derived.Test.YtolkjadklbchfaaDoorP4
import Derived.Test.YtolkjadklbchfaaDoorM1
import Derived.Test.YtolkjadklbchfaaDoorG2
import Derived.Test.YtolkjadklbchfaaDoorG1
import Derived.Deep.RegionHeld3
import Derived.Deep.DrawnRows
import Derived.Test.YtolkjadklbchfaaDoorG4
/- Walks of the program: Build. -/
open Go Go.RowKit
namespace Go.Proofs.YtolkjadklbchfaaDoor
namespace Pr
open Mem Rf

/-- Marks that fit are numbers below n that rise, and no more than n of them. -/
theorem upTo_nat {n : Nat} {lo : Int} {ms : List Int} (h0 : 0 ≤ lo) (hlo : lo ≤ n) (h : Sp.upTo n lo ms = true) : ∃ ns : List Nat, ms = NI ns ∧ (∀ x ∈ ns, x < n) ∧ (ms.length : Int) ≤ n - lo ∧ Sp.Rises ns ∧ ∀ x ∈ ns, lo ≤ (x : Int) := by
  induction ms generalizing lo with
  | nil => exact ⟨[], rfl, by simp, by simp; omega, fun i j _ hj => by simp at hj, by simp⟩
  | cons p l ih =>
    simp only [Sp.upTo, Bool.and_eq_true, decide_eq_true_eq] at h
    obtain ⟨⟨h1, h2⟩, h3⟩ := h
    obtain ⟨ns, rfl, hx, hl, hr, hlo2⟩ := ih (by omega) (by omega) h3
    obtain ⟨q, rfl⟩ := Int.eq_ofNat_of_zero_le (show 0 ≤ p by omega)
    refine ⟨q :: ns, rfl, ?_, ?_, ?_, ?_⟩
    · intro x hx'
      rcases List.mem_cons.1 hx' with rfl | h
      · omega
      · exact hx x h
    · simp only [List.length_cons]
      omega
    · intro i j hij hj
      cases j with
      | zero => omega
      | succ j =>
        have hj' : j < ns.length := by simpa using hj
        cases i with
        | zero =>
          have := hlo2 ns[j] (List.getElem_mem hj')
          simp [hj']
          omega
        | succ i =>
          have := hr i j (by omega) hj'
          simpa using this
    · intro x hx'
      rcases List.mem_cons.1 hx' with rfl | h
      · exact h1
      · have := hlo2 x h
        omega

/-- A row of bits in blocks from lo on and below hi. -/
structure RowIn (lo hi : Nat) (w : World) (yw ya : Value) (l : List Bool) : Prop where
  row : RowIs lo w yw ya l
  lw : ∀ k, yw.ownBlock = some k → k < hi
  la : ∀ k, ya.ownBlock = some k → k < hi
/-- The cells of an index. -/
def ixc (vs ms : List Nat) (w1 a1 w2 a2 w3 a3 : Value) : Array Value := #[w1, a1, .int .i64 ((Sp.layers vs).length : Nat), .int .i64 (Sp.widthOf vs : Nat), .int .i64 (vs.length : Nat), w2, a2, .int .i64 ((Sp.brackets vs).length : Nat), w3, a3, .int .i64 ((Sp.marks vs.length ms).length : Nat), .int .i64 (ms.length : Nat), .int .i64 (Sp.pow vs.length ms.length : Nat)]
/-- An index in memory: its blocks lie from lo on and below hi. -/
structure Idx (lo hi : Nat) (w : World) (X : Nat) (vs ms : List Nat) : Prop where
  at_ : lo ≤ X ∧ X < hi
  blk : ∃ w1 a1 w2 a2 w3 a3, w.heap[X]? = some (.cells (ixc vs ms w1 a1 w2 a2 w3 a3) 76 (0, 0)) ∧ RowIn lo hi w w1 a1 (Sp.layers vs) ∧ RowIn lo hi w w2 a2 (Sp.brackets vs) ∧ RowIn lo hi w w3 a3 (Sp.marks vs.length ms)

/-- What may be built. -/
structure Fits (vs ms : List Nat) : Prop where
  big : ∀ x ∈ vs, x < 18446744073709551616
  mlt : ∀ x ∈ ms, x < vs.length
  len : vs.length ≤ 200
  mlen : ms.length ≤ vs.length
  rises : Sp.Rises ms

theorem rowIn_made {lo : Nat} {w3 : World} {yw ya : Value} {l : List Bool} (h : RowIs lo w3 yw ya l) (o : Obj) : RowIn lo (w3.alloc o).heap.size (w3.alloc o) yw ya l := by
  refine ⟨h.alloc o, ?_, ?_⟩
  · intro k hk
    have := (h.ow.lt k hk).2
    simp
    omega
  · intro k hk
    have := (h.oa.lt k hk).2
    simp
    omega
theorem idx_made {w w3 : World} {w1 a1 w2 a2 v3 a3 : Value} {vs ms : List Nat} (hb : Below w.heap.size w w3)
    (o1 : RowIs w.heap.size w3 w1 a1 (Sp.layers vs)) (o2 : RowIs w.heap.size w3 w2 a2 (Sp.brackets vs)) (o3 : RowIs w.heap.size w3 v3 a3 (Sp.marks vs.length ms)) :
    Idx w.heap.size (w3.alloc (.cells (ixc vs ms w1 a1 w2 a2 v3 a3) 76)).heap.size (w3.alloc (.cells (ixc vs ms w1 a1 w2 a2 v3 a3) 76)) w3.heap.size vs ms ∧ Below w.heap.size w (w3.alloc (.cells (ixc vs ms w1 a1 w2 a2 v3 a3) 76)) :=
  ⟨⟨⟨hb.size, by simp⟩, w1, a1, w2, a2, v3, a3, heap_alloc_new _ _, rowIn_made o1 _, rowIn_made o2 _, rowIn_made o3 _⟩, hb.alloc hb.size _⟩

set_option maxHeartbeats 1000000 in
theorem build_long (pv : Option Addr) (n cv : Nat) (y : Value) (w : World) (hn : n ≤ 100000000000000) (h : 200 < n) :
    Calls Tryd.prog 30 #[.slice pv n cv, y] w fun e w' => e = .returned (.tuple #[.pointer none, .int .i64 1]) ∧ w' = w := by
  go_enter Tryd.func30, Tryd.ntmps30
  go_wp2
  go_ret2
  exact ⟨rfl, rfl⟩

set_option maxHeartbeats 1000000 in
theorem build_bad (pv : Option Addr) (n cv : Nat) (p : Option Addr) (B m c : Nat) (ms : List Int) (w : World) (hr : Rd B w (.slice p m c) (I64 ms)) (hm : m ≤ 100000000000000) (h : n ≤ 200) (hbad : Sp.upTo n 0 ms = false) :
    Calls Tryd.prog 30 #[.slice pv n cv, .slice p m c] w fun e w' => e = .returned (.tuple #[.pointer none, .int .i64 2]) ∧ w' = w := by
  have hf := fit_any n p B m c ms w hr h hm
  rw [hbad] at hf
  have HF := hide hf
  clear hf hbad
  go_enter Tryd.func30, Tryd.ntmps30
  go_wp2_with (go_at_call 58; refine at_same (unhide HF) ?_)
  go_ret2
  exact ⟨rfl, rfl⟩

set_option maxHeartbeats 1000000 in
theorem build_good (pv : Option Addr) (n cv : Nat) (vs : List Nat) (p : Option Addr) (B m c : Nat) (ms : List Nat) (w : World) (hrv : Rd B w (.slice pv n cv) (U64 vs)) (hr : Rd B w (.slice p m c) (I64 (NI ms))) (hB : B ≤ w.heap.size) (hg : Fits vs ms) (hok : Sp.upTo n 0 (NI ms) = true) :
    Calls Tryd.prog 30 #[.slice pv n cv, .slice p m c] w fun e w' => ∃ X, e = .returned (.tuple #[.pointer (some ⟨X, 0, none⟩), .int .i64 0]) ∧ Idx w.heap.size w'.heap.size w' X vs ms ∧ Below w.heap.size w w' := by
  obtain ⟨hl, hlc⟩ := hrv.len
  rw [U64_len] at hl
  obtain ⟨hl2, hlc2⟩ := hr.len
  rw [NI_len] at hl2
  have hn := hg.len
  have hm := hg.mlen
  have hf := fit_any n p B m c (NI ms) w hr (by omega) (by omega)
  rw [hok] at hf
  have HF := hide hf
  have HRV := hide hrv
  have HR := hide hr
  have HG := hide hg
  have HL := hide hl
  have HL2 := hide hl2
  have hn2 : n ≤ 200 := by omega
  have hm2 : m ≤ 200 := by omega
  clear hf hok hrv hr hg hl hl2 hn hm
  go_enter Tryd.func30, Tryd.ntmps30
  go_wp2_with (go_at_call 58; refine at_same (unhide HF) ?_)
  refine (lof_any pv B n cv _ vs w (unhide HRV) hB (unhide HG).big (by omega) rfl).mono ?_
  rintro e w1 ⟨y1, x1, rfl, o1, b1⟩
  obtain ⟨p1, c1, q1, d1, rfl, rfl⟩ := o1.form
  have O1 := hide o1
  have B1 := hide b1
  clear o1 b1 HF
  go_wp2_with fail
  refine (bof_any pv B n cv vs w1 ((unhide HRV).below ((unhide B1).mono hB)) (Nat.le_trans hB (unhide B1).size) (by omega)).mono ?_
  rintro e w2 ⟨y2, x2, rfl, o2, b2⟩
  obtain ⟨p2, c2, q2, d2, rfl, rfl⟩ := o2.form
  have O2 := hide (o2.base (unhide B1).size)
  have O1b := hide ((unhide O1).later b2)
  have B2 := hide (bel_trans (unhide B1) b2)
  clear o2 b2 O1 B1
  go_wp2_with fail
  refine (mof_any p B n m c ms w2 ((unhide HR).below ((unhide B2).mono hB)) (Nat.le_trans hB (unhide B2).size) (by rw [unhide HL]; exact (unhide HG).mlt) (by omega) (by omega)).mono ?_
  rintro e w3 ⟨y3, x3, rfl, o3, b3⟩
  obtain ⟨p3, c3, q3, d3, rfl, rfl⟩ := o3.form
  have O3 := hide (o3.base (unhide B2).size)
  have O1c := hide ((unhide O1b).later b3)
  have O2c := hide ((unhide O2).later b3)
  have B3 := hide (bel_trans (unhide B2) b3)
  clear o3 b3 O1b O2 B2
  have HE : Hid (n = vs.length ∧ m = ms.length) := ⟨unhide HL, unhide HL2⟩
  go_wp2
  go_ret2
  refine ⟨w3.heap.size, rfl, ?_⟩
  obtain ⟨h1, h2⟩ := unhide HE
  have q3' := unhide O3
  subst h1
  subst h2
  exact idx_made (unhide B3) (unhide O1c) (unhide O2c) q3'
end Pr
end Go.Proofs.YtolkjadklbchfaaDoor
/- Walks of the program: Len, Width, orEmpty, Size. -/
open Go Go.RowKit
namespace Go.Proofs.YtolkjadklbchfaaDoor
namespace Pr
open Mem Rf

/-- The cells of the index at X. -/
def IxC (w : World) (X : Nat) (cs : Array Value) : Prop := ∀ j u, cs[j]? = some u → w.cell? ⟨X, j, none⟩ = some u
theorem IxC.later {w w' : World} {X : Nat} {cs : Array Value} (h : IxC w X cs) (hb : Below w.heap.size w w') : IxC w' X cs := fun j u hu => later_cell (h j u hu) hb
theorem idx_open {lo hi : Nat} {w : World} {X : Nat} {vs ms : List Nat} (h : Idx lo hi w X vs ms) : ∃ w1 a1 w2 a2 w3 a3, IxC w X (ixc vs ms w1 a1 w2 a2 w3 a3) ∧ RowIs lo w w1 a1 (Sp.layers vs) ∧ RowIs lo w w2 a2 (Sp.brackets vs) ∧ RowIs lo w w3 a3 (Sp.marks vs.length ms) := by
  obtain ⟨w1, a1, w2, a2, w3, a3, hb, o1, o2, o3⟩ := h.blk
  refine ⟨w1, a1, w2, a2, w3, a3, ?_, o1.row, o2.row, o3.row⟩
  intro j u hu
  rw [cell_of_row _ _ _ _ _ (0, 0) hb]
  exact hu

theorem llen_any (v0 v1 v2 v3 : Value) (n : Nat) (w : World) : Calls Tryd.prog 55 #[.agg #[v0, v1, v2, v3, .int .i64 (n : Nat)]] w fun e w' => e = .returned (.int .i64 (n : Nat)) ∧ Below w.heap.size w w' := by
  go_enter Tryd.func55, Tryd.ntmps55
  go_wp2
  go_ret
  exact ⟨rfl, alloc_bel _ _⟩
theorem mlen_any (v0 v1 v2 v4 : Value) (n : Nat) (w : World) : Calls Tryd.prog 56 #[.agg #[v0, v1, v2, .int .i64 (n : Nat), v4]] w fun e w' => e = .returned (.int .i64 (n : Nat)) ∧ Below w.heap.size w w' := by
  go_enter Tryd.func56, Tryd.ntmps56
  go_wp2
  go_ret
  exact ⟨rfl, alloc_bel _ _⟩
theorem lwid_any (v0 v1 v2 v4 : Value) (n : Nat) (w : World) : Calls Tryd.prog 76 #[.agg #[v0, v1, v2, .int .i64 (n : Nat), v4]] w fun e w' => e = .returned (.int .i64 (n : Nat)) ∧ Below w.heap.size w w' := by
  go_enter Tryd.func76, Tryd.ntmps76
  go_wp2
  go_ret
  exact ⟨rfl, alloc_bel _ _⟩
theorem orEmpty_any (X : Nat) (w : World) : Calls Tryd.prog 34 #[.pointer (some ⟨X, 0, none⟩)] w fun e w' => e = .returned (.pointer (some ⟨X, 0, none⟩)) ∧ w' = w := by
  go_enter Tryd.func34, Tryd.ntmps34
  go_wp2
  go_ret
  exact ⟨rfl, rfl⟩

set_option maxHeartbeats 1000000 in
theorem size_any (lo hi X : Nat) (vs ms : List Nat) (w : World) (h : Idx lo hi w X vs ms) :
    Calls Tryd.prog 27 #[.pointer (some ⟨X, 0, none⟩)] w fun e w' => e = .returned (.tuple #[.int .i64 (vs.length : Nat), .int .i64 (ms.length : Nat)]) ∧ Below w.heap.size w w' := by
  obtain ⟨w1, a1, w2, a2, w3, a3, hc, _⟩ := idx_open h
  have HK := hide (fun (w' : World) (hb : Below w.heap.size w w') => hc.later hb)
  have HE := hide (fun W => orEmpty_any X W)
  have HK2 : Hid (∀ w', Below w.heap.size w w' → w'.cell? ⟨X, 0, none⟩ = some w1 ∧ w'.cell? ⟨X, 1, none⟩ = some a1 ∧ w'.cell? ⟨X, 2, none⟩ = some (.int .i64 ((Sp.layers vs).length : Nat)) ∧ w'.cell? ⟨X, 3, none⟩ = some (.int .i64 (Sp.widthOf vs : Nat)) ∧ w'.cell? ⟨X, 4, none⟩ = some (.int .i64 (vs.length : Nat)) ∧
      w'.cell? ⟨X, 8, none⟩ = some w3 ∧ w'.cell? ⟨X, 9, none⟩ = some a3 ∧ w'.cell? ⟨X, 10, none⟩ = some (.int .i64 ((Sp.marks vs.length ms).length : Nat)) ∧ w'.cell? ⟨X, 11, none⟩ = some (.int .i64 (ms.length : Nat)) ∧ w'.cell? ⟨X, 12, none⟩ = some (.int .i64 (Sp.pow vs.length ms.length : Nat))) := by
    intro w' hb
    have hd := hc.later hb
    exact ⟨hd 0 _ rfl, hd 1 _ rfl, hd 2 _ rfl, hd 3 _ rfl, hd 4 _ rfl, hd 8 _ rfl, hd 9 _ rfl, hd 10 _ rfl, hd 11 _ rfl, hd 12 _ rfl⟩
  have HB0 : Hid (Below w.heap.size w w.drew) := drew_bel w
  clear h hc HK
  generalize (Sp.layers vs).length = n2 at *
  generalize Sp.widthOf vs = n3 at *
  generalize (Sp.marks vs.length ms).length = n10 at *
  generalize Sp.pow vs.length ms.length = n12 at *
  generalize vs.length = n at *
  generalize ms.length = m at *
  obtain ⟨c0, c1, c2, c3, c4, c8, c9, c10, c11, c12⟩ := unhide HK2 w (Below.refl _ _)
  have HL := hide (fun (W : World) => llen_any w1 a1 (.int .i64 (n2 : Nat)) (.int .i64 (n3 : Nat)) n W)
  have HM := hide (fun (W : World) => mlen_any w3 a3 (.int .i64 (n10 : Nat)) (.int .i64 (n12 : Nat)) m W)
  go_enter Tryd.func27, Tryd.ntmps27
  go_wp2_with (go_at_call 34; refine at_same (unhide HE _) ?_)
  go_region_held3 (fun w' => w'.cell? ⟨X, 0, none⟩ = some w1 ∧ w'.cell? ⟨X, 1, none⟩ = some a1 ∧ w'.cell? ⟨X, 2, none⟩ = some (.int .i64 (n2 : Nat)) ∧ w'.cell? ⟨X, 3, none⟩ = some (.int .i64 (n3 : Nat)) ∧ w'.cell? ⟨X, 4, none⟩ = some (.int .i64 (n : Nat)) ∧
      w'.cell? ⟨X, 8, none⟩ = some w3 ∧ w'.cell? ⟨X, 9, none⟩ = some a3 ∧ w'.cell? ⟨X, 10, none⟩ = some (.int .i64 (n10 : Nat)) ∧ w'.cell? ⟨X, 11, none⟩ = some (.int .i64 (m : Nat)) ∧ w'.cell? ⟨X, 12, none⟩ = some (.int .i64 (n12 : Nat))) (go_keep)
    (first
    | (go_at_call 55; refine (unhide HL _).mono ?_; rintro e v1 ⟨rfl, hb1⟩; have hb2 := bel_trans (unhide HB0) hb1; have hk := unhide HK2 _ hb2; have HB0 := hide hb2; clear hb1 hb2; obtain ⟨d0, d1, d2, d3, d4, d8, d9, d10, d11, d12⟩ := hk)
    | (go_at_call 56; refine (unhide HM _).mono ?_; rintro e v2 ⟨rfl, hb1⟩; have hb2 := bel_trans (unhide HB0) hb1; have hk := unhide HK2 _ hb2; have HB0 := hide hb2; clear hb1 hb2; obtain ⟨d0, d1, d2, d3, d4, d8, d9, d10, d11, d12⟩ := hk))
  all_goals
    go_wp2
    go_ret2
    exact ⟨rfl, unhide HB0⟩
end Pr
end Go.Proofs.YtolkjadklbchfaaDoor
/- Walks of the program: sum.Of, AppendWith. -/
open Go Go.RowKit
namespace Go.Proofs.YtolkjadklbchfaaDoor
namespace Pr
open Mem

/-- The table of half bytes lies in the block of its variable. -/
def Tab (w : World) : Prop := 0 < w.heap.size ∧ ∀ j, j < 16 → w.cell? ⟨0, j, none⟩ = some (.int .u32 ((Sp.halves[j]?.getD 0 : Nat) : Int))
theorem Tab.below {w w' : World} {B : Nat} (h : Tab w) (hb : Below B w w') (hB : 0 < B) : Tab w' :=
  ⟨Nat.lt_of_lt_of_le h.1 hb.size, fun j hj => by rw [hb.cell (p := ⟨0, j, none⟩) hB]; exact h.2 j hj⟩

theorem and15 (x : Nat) (hx : x < 4294967296) : bits BinOp.and IntKind.u32 (x : Int) 15 = ((x % 16 : Nat) : Int) := by
  rw [show (15 : Int) = ((15 : Nat) : Int) from rfl, u32_and_nat _ _ hx (by omega)]
  rw [show x &&& 15 = x % 16 from Nat.and_two_pow_sub_one_eq_mod x 4]
theorem xor_u32 (a b c : Nat) (ha : a < 4294967296) (hb : b < 4294967296) (hc : a ^^^ b = c) : bits BinOp.xor IntKind.u32 (a : Int) (b : Int) = (c : Int) := by
  rw [u32_xor_nat a b ha hb, hc]

theorem xor_16 (a b c : Nat) (ha : a < 4294967296) (hb : b < 4294967296) (hc : (a / 16) ^^^ b = c) : bits BinOp.xor IntKind.u32 ((a : Int) / 16) (b : Int) = (c : Int) := by
  rw [show ((a : Int) / 16) = ((a / 16 : Nat) : Int) from by omega]
  exact xor_u32 _ _ _ (by omega) hb hc
theorem not_u32 (x : Nat) (hx : x < 4294967296) : bits BinOp.xor IntKind.u32 IntKind.u32.max (x : Int) = ((x ^^^ 4294967295 : Nat) : Int) := by
  rw [show IntKind.u32.max = ((4294967295 : Nat) : Int) from rfl]
  exact xor_u32 4294967295 x _ (by omega) hx (Nat.xor_comm _ _)

set_option maxHeartbeats 400000 in
theorem of_any (p : Option Addr) (B n c : Nat) (xs : List Nat) (w : World) (hr : Rd B w (.slice p n c) (By xs)) (hx : ∀ x ∈ xs, x < 256) (hn : n ≤ 100000000000000) (hT : Tab w) :
    Calls Tryd.prog 75 #[.slice p n c] w fun e w' => e = .returned (.int .u32 (Sp.sum xs : Nat)) ∧ w' = w := by
  obtain ⟨hl, hlc⟩ := hr.len
  rw [By_len] at hl
  have HL : Hid (n = xs.length) := hl
  have hfin : Hid (Sp.sum xs = Sp.quick xs n ^^^ 4294967295) := by rw [hl, Sp.quick_eq hx]; rfl
  have HR := hide hr
  have HX := hide hx
  have HT := hide hT
  clear hl hr hx hT
  go_enter Tryd.func75, Tryd.ntmps75
  go_wp2
  go_loop [3, 8] (fun h i => ∃ k : Nat, k ≤ n ∧ i = .int .i64 k ∧ h = .int .u32 (Sp.quick xs k : Nat)) (fun _ i => n - (intOf i).toNat)
  case atStart => exact ⟨0, Nat.zero_le _, rfl, rfl⟩
  case round =>
    obtain ⟨k, hk, rfl, rfl⟩ := hrel
    have hs := Sp.quick_lt (unhide HX) k
    by_cases hlt : k < n
    · have hlt' : k < xs.length := by rw [← HL.out]; exact hlt
      obtain ⟨b, o, rfl, hb, hc⟩ := (unhide HR).at k _ (By_at xs k hlt')
      have hxk : xs[k] < 256 := unhide HX _ (List.getElem_mem hlt')
      have HS : Hid (Sp.quick xs (k + 1) = Sp.hop (Sp.hop (Sp.quick xs k ^^^ xs[k]))) := by simp [Hid, Sp.quick, hlt']
      generalize hT9 : Sp.quick xs (k + 1) = t at *
      have HT9 := hide hT9
      clear hT9
      generalize Sp.quick xs k = s at *
      generalize xs[k] = x at *
      obtain ⟨x1, h1⟩ : ∃ x1, s ^^^ x = x1 := ⟨_, rfl⟩
      have hx1 : x1 < 4294967296 := by rw [← h1]; exact Nat.xor_lt_two_pow (n := 32) hs (by omega)
      have e1 := xor_u32 s x x1 hs (by omega) h1
      have e2 := and15 x1 hx1
      have hm1 : x1 % 16 < 16 := Nat.mod_lt _ (by omega)
      have ht1 := (unhide HT).2 _ hm1
      obtain ⟨x2, h2⟩ : ∃ x2, Sp.hop x1 = x2 := ⟨_, rfl⟩
      have hx2 : x2 < 4294967296 := by rw [← h2]; exact Sp.hop_lt hx1
      have e3 := xor_16 x1 (Sp.halves[x1 % 16]?.getD 0) x2 hx1 (Sp.halves_lt _ hm1) h2
      have e4 := and15 x2 hx2
      have hm2 : x2 % 16 < 16 := Nat.mod_lt _ (by omega)
      have ht2 := (unhide HT).2 _ hm2
      obtain ⟨x3, h3⟩ : ∃ x3, Sp.hop x2 = x3 := ⟨_, rfl⟩
      have e5 := xor_16 x2 (Sp.halves[x2 % 16]?.getD 0) x3 hx2 (Sp.halves_lt _ hm2) h3
      have HF : Hid (t = x3) := by rw [Hid, HS.out, h1, h2, h3]
      clear HS h1 h2 h3
      generalize hg1 : Sp.halves[x1 % 16]?.getD 0 = t1 at *
      generalize hg2 : Sp.halves[x2 % 16]?.getD 0 = t2 at *
      clear hg1 hg2
      go_wp2
      go_round
      case rel => exact ⟨k + 1, by omega, by go_num, by rw [unhide HT9, HF.out]⟩
      case measure => simp [intOf]; omega
    · have he : k = n := by omega
      subst he
      go_wp2
      go_ret
      exact ⟨ret_int (by rw [hfin.out]; exact not_u32 _ hs), rfl⟩

/-- Bytes put behind a row of the caller's own, and their sum. -/
theorem with_end {w w1 w2 : World} {base : Nat} {ys xs : List Nat} {h : Nat} {v0 v1 v2 : Value} {o : Obj} (_hb0 : base ≤ w.heap.size) (hs : Sp.sum xs = h) (_hown0 : w.ownsRow base 5 1 v0 ys.length (By ys))
    (_hown1 : w1.ownsRow base 5 1 v1 (ys.length + (By xs).length) (By ys ++ By xs)) (hg1 : w.grownBy w1 v0.ownBlock) (hb1 : v1.ownBlock = v0.ownBlock ∨ v1.ownBlock = some w.heap.size)
    (hown2 : w2.ownsRow base 5 1 v2 (ys.length + (By xs).length + 4) (By ys ++ By xs ++ [Value.int .u8 ((h : Int) % 256), .int .u8 ((h : Int) / 256 % 256), .int .u8 ((h : Int) / 65536 % 256), .int .u8 ((h : Int) / 16777216)]))
    (hg2 : (w1.alloc o).grownBy w2 v1.ownBlock) (hb2 : v2.ownBlock = v1.ownBlock ∨ v2.ownBlock = some (w1.alloc o).heap.size) :
    w2.ownsRow base 5 1 v2 (ys ++ Sp.sealed xs).length (By (ys ++ Sp.sealed xs)) ∧ w.heap.size ≤ w2.heap.size ∧ w.grownBy w2 v0.ownBlock ∧ (v2.ownBlock = v0.ownBlock ∨ ∃ k, w.heap.size ≤ k ∧ v2.ownBlock = some k) := by
  rw [Rf.tail4_cells, ← By_app, ← By_app, By_len, ← hs] at hown2
  have s1 := hg1.size
  have s2 := hg2.size
  simp at s2
  refine ⟨?_, by omega, ?_, ?_⟩
  · rw [show ys ++ Sp.sealed xs = ys ++ xs ++ Sp.tail4 (Sp.sum xs) from by rw [List.append_assoc]; rfl]
    rw [show (ys ++ xs ++ Sp.tail4 (Sp.sum xs)).length = ys.length + xs.length + 4 from by simp [Sp.tail4]; omega]
    exact hown2
  · refine ⟨?_, ?_, ?_, by omega, ?_⟩
    · exact hg2.os.trans hg1.os
    · exact hg2.tape.trans hg1.tape
    · exact hg2.output.trans hg1.output
    · intro k hk hne
      have e1 : (w1.alloc o).heap[k]? = w1.heap[k]? := Below.heap_alloc _ _ _ (by omega)
      rw [hg2.block k (by simp; omega) ?_, e1, hg1.block k hk hne]
      intro e
      rcases hb1 with h | h
      · exact hne (e.trans h)
      · rw [h] at e
        simp at e
        omega
  · rcases hb2 with h | h
    · rcases hb1 with h' | h'
      · exact .inl (h.trans h')
      · exact .inr ⟨_, Nat.le_refl _, h.trans h'⟩
    · exact .inr ⟨_, by simp; omega, h⟩

set_option maxHeartbeats 400000 in
theorem with_any (base : Nat) (v0 : Value) (ys : List Nat) (p : Option Addr) (B n c : Nat) (xs : List Nat) (w : World) (hr : Rd B w (.slice p n c) (By xs)) (hx : ∀ x ∈ xs, x < 256) (hn : n ≤ 1000000000000) (hT : Tab w) (hown0 : w.ownsRow base 5 1 v0 ys.length (By ys)) (hny : ys.length ≤ 1000000000000) (hb0 : base ≤ w.heap.size) :
    Calls Tryd.prog 43 #[v0, .slice p n c] w fun e w' => ∃ v, e = .returned v ∧ (w'.ownsRow base 5 1 v (ys ++ Sp.sealed xs).length (By (ys ++ Sp.sealed xs)) ∧ w.heap.size ≤ w'.heap.size ∧ w.grownBy w' v0.ownBlock ∧ (v.ownBlock = v0.ownBlock ∨ ∃ k, w.heap.size ≤ k ∧ v.ownBlock = some k)) := by
  obtain ⟨hl, hlc⟩ := hr.len
  rw [By_len] at hl
  have HL : Hid (n = xs.length) := hl
  have hs := Sp.sum_lt xs
  have HB := hide (of_any p B n c xs w hr hx (by omega) hT)
  have HR := hide hr
  have HO := hide hown0
  clear hl hr hx hT hown0
  generalize hSS : Sp.sum xs = h at *
  have HSS := hide hSS
  clear hSS
  go_enter Tryd.func43, Tryd.ntmps43
  go_wp2_with (first
    | (go_at_call 75; refine at_same (unhide HB) ?_)
    | (at_builtin; refine wpList_app _ rfl (.tmp 8) (.tmp 9) 45 rfl base 5 (.int .u8 0) 1 Tryd.underlying45 Ty.u8 rfl v0 _ _ rfl (unhide HO) (.slice p n c) (By xs) rfl ⟨B, unhide HR⟩ (one_By xs) (by rw [By_len, ← HL.out]; unfold maxLen; omega) (by rw [By_len, ← HL.out]; omega) hb0 ?_; intro v1 w1 hown1 hg1 hb1)
    | (at_builtin; refine wpList_app _ rfl (.tmp 11) (.tmp 23) 45 rfl base 5 (.int .u8 0) 1 Tryd.underlying45 Ty.u8 rfl v1 _ _ rfl (hown1.alloc _) _ _ rfl ⟨_, Rd.lit w1 [Value.int .u8 ((h : Int) % 256), .int .u8 ((h : Int) / 256 % 256), .int .u8 ((h : Int) / 65536 % 256), .int .u8 ((h : Int) / 16777216)] 5⟩ (Rf.one_four _ _ _ _) (by rw [By_len, ← HL.out]; unfold maxLen; simp; omega) (by rw [By_len, ← HL.out]; simp; omega) (by have := hg1.size; simp; omega) ?_; intro v2 w2 hown2 hg2 hb2))
  go_ret
  exact ⟨v2, rfl, with_end hb0 (unhide HSS) (unhide HO) hown1 hg1 hb1 hown2 hg2 hb2⟩
end Pr
end Go.Proofs.YtolkjadklbchfaaDoor
/- Walks of the program: head, Encode. -/
open Go Go.RowKit
namespace Go.Proofs.YtolkjadklbchfaaDoor
namespace Pr
open Mem Rf

/-- A literal of bytes turned into bytes: the block is marked behind its end. -/
theorem run_conv_lit {P : Program} (w : World) (C : Array Value) (t e : TypeId) (l c : Nat) (ht : P.underlying t = some (.slice e)) (he : P.underlying e = some (.int .u8)) :
    (convert t t (.slice (some ⟨w.heap.size, 0, none⟩) l c)).run P (w.alloc (.cells C e)) = .ok (.slice (some ⟨w.heap.size, 0, none⟩) l c) (w.alloc (.cells C e (C.size, C.size + 1))) := by
  have hsh : (w.alloc (.cells C e)).shape? w.heap.size = some (e, C.size) := by
    unfold World.shape?
    rw [heap_alloc_new]
  have hm : ∀ (a : Array Obj) (x : Obj) (f : Obj → Obj), (a.push x).modify a.size f = a.push (f x) := by
    intro a x f
    apply Array.ext
    · simp
    · intro i h1 h2
      simp only [Array.getElem_modify, Array.getElem_push]
      by_cases h : a.size = i
      · subst h
        simp
      · have hi : i < a.size := by simp at h1; omega
        simp [h, hi]
  have hfr : (w.alloc (.cells C e)).freeze ⟨w.heap.size, C.size, none⟩ 1 = w.alloc (.cells C e (C.size, C.size + 1)) := by
    unfold World.freeze
    rw [if_neg (by decide)]
    show ({ w.alloc (.cells C e) with heap := (w.heap.push (.cells C e)).modify w.heap.size _ } : World) = _
    rw [hm]
    rfl
  simp [convert, run_underlying ht, run_underlying he, markStringish, hsh, hfr]

/-- append where there is no room, onto whatever reads: a new row. -/
theorem wpList_app_new {P : Program} (w : World) {ops : Array Oper} {rest : List Oper} {o : Oper} {a : Act} {Q : Exit → Act → World → Prop} (hgd : o.guard = none) (s x : Operand) (t : TypeId)
    (ho : o.op = .call { callee := .builtin .append, args := #[s, x], argTypes := #[t, t] })
    (e : TypeId) (z : Value) (bytes : Nat) (ht : P.underlying t = some (.slice e)) (hinfo : (P.info? e).map (fun i => (i.zero, i.size, i.bytes)) = some (some z, 1, bytes)) (hzs : z.cells.size = 1)
    (b0 o0 : Nat) (xs : List Value) (cap : Nat) (hs : a.eval s = .slice (some ⟨b0, o0, none⟩) xs.length cap) (hold : ∀ j u, xs[j]? = some u → w.cell? ⟨b0, o0 + j, none⟩ = some u)
    (b1 o1 : Nat) (ys : List Value) (c : Nat) (hx : a.eval x = .slice (some ⟨b1, o1, none⟩) ys.length c) (hnew : ∀ j u, ys[j]? = some u → w.cell? ⟨b1, o1 + j, none⟩ = some u)
    (hroom : cap < xs.length + ys.length) (h63 : xs.length + ys.length ≤ maxLen) (hbytes : (xs.length + ys.length) * bytes ≤ 140737488355328)
    (h : ∀ v' w', w'.ownsRow w.heap.size e 1 v' (xs.length + ys.length) (xs ++ ys) → Below w.heap.size w w' → wpList P ops Q rest (a.put o.dst v') w') :
    wpList P ops Q (o :: rest) a w := by
  obtain ⟨i, hi, hz, hsize, hby⟩ := info_parts hinfo
  have h63' : ((xs.length + ys.length : Nat) : Int) ≤ 9223372036854775807 := by unfold maxLen at h63; omega
  have hr := run_append_grow (P := P) w t o.type e i z ht hi hz ⟨b0, o0, none⟩ xs.length cap xs (by rw [hsize, Nat.mul_one]) (by intro j u hu; rw [Addr.add_lit]; exact hold j u hu) ⟨b1, o1, none⟩ ys.length c ys (by rw [hsize, Nat.mul_one]) (by intro j u hu; rw [Addr.add_lit]; exact hnew j u hu) hroom h63' (growslice_fits hroom (by rw [hby]; exact hbytes))
  refine wpList_plain hgd fun K hK => ?_
  unfold Oper.wp execOp
  simp only [ho, resolve, invoke, builtin, Sem.run_bind, Sem.run_pure, Result.andThen_ok, List.map_toArray, List.map_cons, List.map_nil, hs, hx, hr]
  refine hK _ _ (h _ _ ?_ ?_)
  · have hge := grownCap_ge w (xs.length + ys.length) cap e
    have hcm : grownCap w (xs.length + ys.length) cap e ≤ maxLen := grownCap_le_maxLen w (xs.length + ys.length) cap e h63
    refine ⟨by simp, .inr ⟨w.heap.size, _, _, rfl, Nat.le_refl _, heap_alloc_new w.drew _, hge, hcm, ?_, ?_⟩⟩
    · simp only [Array.size_append, List.size_toArray, size_zeroCells, hzs]
      omega
    · rw [Array.toList_append, Array.toList_append, Nat.mul_one, ← List.length_append]
      exact List.take_left
  · exact (Below.refl _ _).drew.alloc (Nat.le_refl _) _

theorem cells_at {W : World} {b : Nat} {C : List Value} {e : TypeId} {fr : Nat × Nat} (hb : W.heap[b]? = some (.cells C.toArray e fr)) : ∀ j u, C[j]? = some u → W.cell? ⟨b, 0 + j, none⟩ = some u := by
  intro j u hu
  rw [Nat.zero_add, cell_of_row W b j C.toArray e fr hb]
  simpa using hu
theorem blk0 (w : World) (o o' : Obj) : ((w.alloc o).alloc o').heap[w.heap.size]? = some o := by
  rw [Below.heap_alloc _ _ _ (by simp)]
  exact heap_alloc_new _ _
theorem blk1 (w : World) (o o' : Obj) : ((w.alloc o).alloc o').heap[w.heap.size + 1]? = some o' := by
  have := heap_alloc_new (w.alloc o) o'
  simpa using this

/-- The ten bytes, put together. -/
theorem head_cells (wd n m : Nat) (hn : n ≤ 200) (hm : m ≤ 200) : [Value.int .u8 83, .int .u8 84, .int .u8 82, .int .u8 65] ++ [.int .u8 1, .int .u8 (wd : Int)] ++ [.int .u8 (n : Int), .int .u8 ((n : Int) / 256), .int .u8 (m : Int), .int .u8 ((m : Int) / 256)] = By (Sp.head wd n m) := by
  simp [By, Sp.head]
  omega
theorem rd_drew {B : Nat} {w : World} {y : Value} {ys : List Value} (h : Rd B w y ys) : Rd B w.drew y ys := h

set_option maxHeartbeats 2000000 in
set_option maxRecDepth 10000 in
theorem head_any (lo hi X : Nat) (vs ms : List Nat) (w : World) (hidx : Idx lo hi w X vs ms) (hf : Fits vs ms) :
    Calls Tryd.prog 44 #[.pointer (some ⟨X, 0, none⟩)] w fun e w' => ∃ v, e = .returned v ∧ w'.ownsRow w.heap.size 5 1 v 10 (By (Sp.head (Sp.widthOf vs) vs.length ms.length)) ∧ Below w.heap.size w w' := by
  have HSZ := hide (size_any lo hi X vs ms w hidx)
  obtain ⟨y1, a1, y2, a2, y3, a3, hc, _⟩ := idx_open hidx
  have HK2 : Hid (∀ w', Below w.heap.size w w' → w'.cell? ⟨X, 0, none⟩ = some y1 ∧ w'.cell? ⟨X, 1, none⟩ = some a1 ∧ w'.cell? ⟨X, 2, none⟩ = some (.int .i64 ((Sp.layers vs).length : Nat)) ∧ w'.cell? ⟨X, 3, none⟩ = some (.int .i64 (Sp.widthOf vs : Nat)) ∧ w'.cell? ⟨X, 4, none⟩ = some (.int .i64 (vs.length : Nat))) := by
    intro w' hb
    have hd := hc.later hb
    exact ⟨hd 0 _ rfl, hd 1 _ rfl, hd 2 _ rfl, hd 3 _ rfl, hd 4 _ rfl⟩
  have hw := Sp.widthOf_le vs hf.big
  have hn := hf.len
  have hm : ms.length ≤ 200 := Nat.le_trans hf.mlen hf.len
  clear hidx hc hf
  generalize (Sp.layers vs).length = n2 at *
  generalize Sp.widthOf vs = wd at *
  generalize vs.length = n at *
  generalize ms.length = m at *
  have HL := hide (fun (W : World) => lwid_any y1 a1 (.int .i64 (n2 : Nat)) (.int .i64 (n : Nat)) wd W)
  go_enter Tryd.func44, Tryd.ntmps44
  go_wp2_with fail
  refine (unhide HSZ).mono ?_
  rintro e w1 ⟨rfl, hb1⟩
  have hcv := run_conv_lit (P := Tryd.prog) w1 #[.int .u8 83, .int .u8 84, .int .u8 82, .int .u8 65] 45 5 4 4 Tryd.underlying45 Tryd.underlying5
  simp only [List.size_toArray, List.length_cons, List.length_nil, Nat.zero_add] at hcv
  obtain ⟨c0, c1, c2, c3, c4⟩ := unhide HK2 (w1.alloc (.cells #[.int .u8 83, .int .u8 84, .int .u8 82, .int .u8 65] 5 (4, 5))) (bel_trans hb1 (alloc_bel _ _))
  have HB1 := hide hb1
  clear hb1 HSZ
  go_wp2_with fail
  refine (unhide HL _).mono ?_
  rintro e w2 ⟨rfl, hb2⟩
  have hlit : w2.heap[w1.heap.size]? = some (.cells #[.int .u8 83, .int .u8 84, .int .u8 82, .int .u8 65] 5 (4, 5)) := (hb2.block w1.heap.size (by simp)).trans (heap_alloc_new _ _)
  have hb3 : Below w.heap.size w w2 := bel_trans (bel_trans (unhide HB1) (alloc_bel _ _)) hb2
  have HLI := hide hlit
  have HB3 := hide hb3
  have hlt : w1.heap.size < w2.heap.size := (Array.getElem?_eq_some_iff.1 hlit).1
  clear hcv c0 c1 c2 c3 c4 hlit hb2 hb3 HB1 HK2
  go_wp2_with (first
    | (at_builtin; refine wpList_app_new _ rfl (.tmp 12) (.tmp 19) 45 rfl 5 (.int .u8 0) 1 Tryd.underlying45 Ty.u8 rfl w1.heap.size 0 [.int .u8 83, .int .u8 84, .int .u8 82, .int .u8 65] 4 rfl (cells_at (C := [.int .u8 83, .int .u8 84, .int .u8 82, .int .u8 65]) ((Below.heap_alloc _ _ _ hlt).trans (unhide HLI))) w2.heap.size 0 [.int .u8 1, .int .u8 (wd : Int)] 2 rfl (cells_at (C := [.int .u8 1, .int .u8 (wd : Int)]) (heap_alloc_new _ _)) (show (4 : Nat) < 4 + 2 by omega) (show (4 + 2 : Nat) ≤ maxLen by unfold maxLen; omega) (show ((4 + 2) * 1 : Nat) ≤ 140737488355328 by omega) ?_; intro v1 w3 ho1 hb4; have HO := hide (own_base ho1 (base' := w.heap.size) (by have := (unhide HB3).size; simp; omega)); have HB := hide (bel_trans (bel_trans (unhide HB3) (alloc_bel _ _)) hb4); have hsz := (unhide HB).size; clear ho1 hb4)
    | (at_builtin; refine wpList_app _ rfl (.tmp 21) (.tmp 32) 45 rfl w.heap.size 5 (.int .u8 0) 1 Tryd.underlying45 Ty.u8 rfl v1 _ _ rfl ((unhide HO).alloc _) _ _ rfl ⟨_, Rd.lit w3 [.int .u8 (n : Int), .int .u8 ((n : Int) / 256), .int .u8 (m : Int), .int .u8 ((m : Int) / 256)] 5⟩ (one_four _ _ _ _) (show (4 + 2 + 4 : Nat) ≤ maxLen by unfold maxLen; omega) (show ((4 + 2 + 4) * 1 : Nat) ≤ 140737488355328 by omega) (by simp; omega) ?_; intro v2 w4 ho2 hg2 hat2))
  have hb5 := (app_below (unhide HB) (Nat.le_refl _) (unhide HO) hg2).1
  go_ret
  refine ⟨v2, rfl, ?_, hb5⟩
  rw [head_cells wd n m hn hm] at ho2
  exact ho2
end Pr
end Go.Proofs.YtolkjadklbchfaaDoor
/- Walks of the program: Encode. -/
open Go Go.RowKit
namespace Go.Proofs.YtolkjadklbchfaaDoor
namespace Pr
open Mem Rf

theorem with_v {base : Nat} {v0 : Value} {ys : List Nat} {y : Value} {B : Nat} {xs : List Nat} {w : World} (hr : Rd B w y (By xs)) (hx : ∀ x ∈ xs, x < 256) (hn : xs.length ≤ 1000000000000) (hT : Tab w) (hown0 : w.ownsRow base 5 1 v0 ys.length (By ys)) (hny : ys.length ≤ 1000000000000) (hb0 : base ≤ w.heap.size) :
    Calls Tryd.prog 43 #[v0, y] w fun e w' => ∃ v, e = .returned v ∧ (w'.ownsRow base 5 1 v (ys ++ Sp.sealed xs).length (By (ys ++ Sp.sealed xs)) ∧ w.heap.size ≤ w'.heap.size ∧ w.grownBy w' v0.ownBlock ∧ (v.ownBlock = v0.ownBlock ∨ ∃ k, w.heap.size ≤ k ∧ v.ownBlock = some k)) := by
  obtain ⟨p, c, rfl, _⟩ := hr.form
  exact with_any base v0 ys p B _ c xs w hr hx (by rw [By_len]; exact hn) hT hown0 hny hb0

/-- What Encode has, part by part: out lies in a row of its own from base on. -/
structure EnSt (w w' : World) (out : Value) (ys : List Nat) : Prop where
  own : w'.ownsRow w.heap.size 5 1 out ys.length (By ys)
  bel : Below w.heap.size w w'

theorem EnSt.next {w w1 w2 w3 : World} {out out' : Value} {ys zs : List Nat} (h : EnSt w w1 out ys) (hb2 : Below w1.heap.size w1 w2)
    (hg : w2.grownBy w3 out.ownBlock) (ho : w3.ownsRow w.heap.size 5 1 out' zs.length (By zs)) : EnSt w w3 out' zs := by
  have s1 := h.bel.size
  have s2 := hb2.size
  refine ⟨ho, (h.bel.trans (hb2.mono s1)).grown hg (by omega) ?_⟩
  intro k hk
  exact (h.own.lt k hk).1

theorem marks_small2 {n : Nat} {ms : List Nat} (hn : n ≤ 1000) (hm : ms.length ≤ 1000) : (Sp.marks n ms).length ≤ 100000 := by
  have hq := pow_small (m := ms.length) hn
  have h1 : ms.length * Sp.pow n ms.length ≤ 1000 * 10 := Nat.mul_le_mul hm hq
  have h2 : n / 2 ^ Sp.pow n ms.length ≤ n := Nat.div_le_self _ _
  unfold Sp.marks Sp.high
  rw [List.length_append, Sp.lows_len, Sp.highTo_len]
  omega
theorem lbytes_any (lo : Nat) (yw ya v3 v4 : Value) (l : List Bool) (w : World) (h : RowIs lo w yw ya l) (hn : l.length ≤ 1000000) :
    Calls Tryd.prog 45 #[.agg #[yw, ya, .int .i64 (l.length : Nat), v3, v4]] w fun e w' => ∃ v, e = .returned v ∧ w'.ownsRow w.heap.size 5 1 v (Sp.pack l).length (By (Sp.pack l)) ∧ Below w.heap.size w w' := by
  have HB := hide (fun o => bytes_any lo yw ya l (w.alloc o) (h.alloc o) hn)
  obtain ⟨pw, cw, pa, ca, rfl, rfl⟩ := h.form
  clear h
  go_enter Tryd.func45, Tryd.ntmps45
  go_wp2_with fail
  refine (unhide HB _).mono ?_
  rintro e w1 ⟨v, rfl, ho, hb⟩
  have HO := hide (And.intro ho hb)
  clear ho hb
  go_wp2
  go_ret
  exact ⟨v, rfl, own_base (unhide HO).1 (by simp), bel_trans (alloc_bel _ _) (unhide HO).2⟩
theorem mbytes_any (lo : Nat) (yw ya v3 v4 : Value) (l : List Bool) (w : World) (h : RowIs lo w yw ya l) (hn : l.length ≤ 1000000) :
    Calls Tryd.prog 47 #[.agg #[yw, ya, .int .i64 (l.length : Nat), v3, v4]] w fun e w' => ∃ v, e = .returned v ∧ w'.ownsRow w.heap.size 5 1 v (Sp.pack l).length (By (Sp.pack l)) ∧ Below w.heap.size w w' := by
  have HB := hide (fun o => bytes_any lo yw ya l (w.alloc o) (h.alloc o) hn)
  obtain ⟨pw, cw, pa, ca, rfl, rfl⟩ := h.form
  clear h
  go_enter Tryd.func47, Tryd.ntmps47
  go_wp2_with fail
  refine (unhide HB _).mono ?_
  rintro e w1 ⟨v, rfl, ho, hb⟩
  have HO := hide (And.intro ho hb)
  clear ho hb
  go_wp2
  go_ret
  exact ⟨v, rfl, own_base (unhide HO).1 (by simp), bel_trans (alloc_bel _ _) (unhide HO).2⟩
theorem bbytes_any (lo : Nat) (yw ya : Value) (l : List Bool) (w : World) (h : RowIs lo w yw ya l) (hn : l.length ≤ 1000000) :
    Calls Tryd.prog 46 #[.agg #[yw, ya, .int .i64 (l.length : Nat)]] w fun e w' => ∃ v, e = .returned v ∧ w'.ownsRow w.heap.size 5 1 v (Sp.pack l).length (By (Sp.pack l)) ∧ Below w.heap.size w w' := by
  have HB := hide (fun o => bytes_any lo yw ya l (w.alloc o) (h.alloc o) hn)
  obtain ⟨pw, cw, pa, ca, rfl, rfl⟩ := h.form
  clear h
  go_enter Tryd.func46, Tryd.ntmps46
  go_wp2_with fail
  refine (unhide HB _).mono ?_
  rintro e w1 ⟨v, rfl, ho, hb⟩
  have HO := hide (And.intro ho hb)
  clear ho hb
  go_wp2
  go_ret
  exact ⟨v, rfl, own_base (unhide HO).1 (by simp), bel_trans (alloc_bel _ _) (unhide HO).2⟩

set_option maxHeartbeats 2000000 in
theorem encode_any (lo hi X : Nat) (vs ms : List Nat) (w : World) (hidx : Idx lo hi w X vs ms) (hf : Fits vs ms) (hT : Tab w) :
    Calls Tryd.prog 25 #[.pointer (some ⟨X, 0, none⟩)] w (Gives w 5 (By (Sp.encode vs ms))) := by
  obtain ⟨y1, a1, y2, a2, y3, a3, hc, r1, r2, r3⟩ := idx_open hidx
  have HK1 : Hid (∀ w', Below w.heap.size w w' → w'.cell? ⟨X, 0, none⟩ = some y1 ∧ w'.cell? ⟨X, 1, none⟩ = some a1 ∧ w'.cell? ⟨X, 2, none⟩ = some (.int .i64 ((Sp.layers vs).length : Nat)) ∧ w'.cell? ⟨X, 3, none⟩ = some (.int .i64 (Sp.widthOf vs : Nat)) ∧ w'.cell? ⟨X, 4, none⟩ = some (.int .i64 (vs.length : Nat))) := by
    intro w' hb
    have hd := hc.later hb
    exact ⟨hd 0 _ rfl, hd 1 _ rfl, hd 2 _ rfl, hd 3 _ rfl, hd 4 _ rfl⟩
  have HK2 : Hid (∀ w', Below w.heap.size w w' → w'.cell? ⟨X, 5, none⟩ = some y2 ∧ w'.cell? ⟨X, 6, none⟩ = some a2 ∧ w'.cell? ⟨X, 7, none⟩ = some (.int .i64 ((Sp.brackets vs).length : Nat))) := by
    intro w' hb
    have hd := hc.later hb
    exact ⟨hd 5 _ rfl, hd 6 _ rfl, hd 7 _ rfl⟩
  have HK3 : Hid (∀ w', Below w.heap.size w w' → w'.cell? ⟨X, 8, none⟩ = some y3 ∧ w'.cell? ⟨X, 9, none⟩ = some a3 ∧ w'.cell? ⟨X, 10, none⟩ = some (.int .i64 ((Sp.marks vs.length ms).length : Nat)) ∧ w'.cell? ⟨X, 11, none⟩ = some (.int .i64 (ms.length : Nat)) ∧ w'.cell? ⟨X, 12, none⟩ = some (.int .i64 (Sp.pow vs.length ms.length : Nat))) := by
    intro w' hb
    have hd := hc.later hb
    exact ⟨hd 8 _ rfl, hd 9 _ rfl, hd 10 _ rfl, hd 11 _ rfl, hd 12 _ rfl⟩
  have h64 := Sp.widthOf_le vs hf.big
  have HH := hide (head_any lo hi X vs ms w hidx hf)
  have hl := hf.len
  have s1 := layers_small hf.big (by omega : vs.length ≤ 1000)
  have s2 := brackets_small (by omega : vs.length ≤ 1000)
  have s3 := marks_small2 (n := vs.length) (ms := ms) (by omega) (by have := hf.mlen; omega)
  have HT := hide hT
  have HR := hide (And.intro r1 (And.intro r2 r3))
  have h0 : 0 < w.heap.size := hT.1
  have HEQ : Hid (Sp.encode vs ms = (([] ++ Sp.sealed (Sp.head (Sp.widthOf vs) vs.length ms.length)) ++ Sp.sealed (Sp.pack (Sp.layers vs))) ++ Sp.sealed (Sp.pack (Sp.brackets vs)) ++ Sp.sealed (Sp.pack (Sp.marks vs.length ms))) := by
    simp [Hid, Sp.encode]
  have HF := hide hf
  obtain ⟨pw1, cw1, pa1, ca1, rfl, rfl⟩ := r1.form
  obtain ⟨pw2, cw2, pa2, ca2, rfl, rfl⟩ := r2.form
  obtain ⟨pw3, cw3, pa3, ca3, rfl, rfl⟩ := r3.form
  clear hidx hf hT hc r1 r2 r3
  go_enter Tryd.func25, Tryd.ntmps25
  go_wp2_with fail
  refine (unhide HH).mono ?_
  rintro e w1 ⟨y1, rfl, q1, b1⟩
  have Q1 := hide (And.intro q1 b1)
  clear q1 b1 HH
  go_wp2_with fail
  refine (with_v (base := w.heap.size) (ys := []) (Rd.owned (unhide Q1).1) (head_lt h64 (by omega) (by have := (unhide HF).mlen; omega)) (by simp [Sp.head]) ((unhide HT).below (unhide Q1).2 h0) (World.ownsRow_nil _ _ _ _) (by simp) (unhide Q1).2.size).mono ?_
  rintro e w2 ⟨x2, rfl, ho2, hs2, hg2, _⟩
  have E2 : Hid (EnSt w w2 x2 ([] ++ Sp.sealed (Sp.head (Sp.widthOf vs) vs.length ms.length))) := ⟨ho2, (unhide Q1).2.grown hg2 (unhide Q1).2.size (by intro k hk; cases hk)⟩
  obtain ⟨k0, k1, k2, k3, k4⟩ := unhide HK1 _ (unhide E2).bel
  clear ho2 hs2 hg2 Q1
  go_wp2_with fail
  refine (lbytes_any _ _ _ _ _ (Sp.layers vs) w2 ((unhide HR).1.later (unhide E2).bel) (by omega)).mono ?_
  rintro e u3 ⟨y3, rfl, q3, b3⟩
  have Q3 := hide (And.intro q3 b3)
  have BB3 := hide ((unhide E2).bel.trans (b3.mono (unhide E2).bel.size))
  have OO3 := hide (own_later (unhide E2).own b3)
  clear q3 b3 k0 k1 k2 k3 k4
  go_wp2_with fail
  refine (with_v (Rd.owned (unhide Q3).1) (Sp.pack_lt _) (by rw [Sp.pack_len]; omega) ((unhide HT).below (unhide BB3) h0) (unhide OO3) (by simp only [List.length_append, Sp.sealed_len, List.length_nil, Sp.head, List.length_cons]; omega) (unhide BB3).size).mono ?_
  rintro e w3 ⟨x3, rfl, ho3, hs3, hg3, _⟩
  have E3 := hide (EnSt.next (unhide E2) (unhide Q3).2 hg3 ho3)
  clear ho3 hs3 hg3 Q3 BB3 OO3
  obtain ⟨k5, k6, k7⟩ := unhide HK2 _ (unhide E3).bel
  clear E2
  go_wp2_with fail
  refine (bbytes_any _ _ _ (Sp.brackets vs) w3 ((unhide HR).2.1.later (unhide E3).bel) (by omega)).mono ?_
  rintro e u4 ⟨y4, rfl, q4, b4⟩
  have Q4 := hide (And.intro q4 b4)
  have BB4 := hide ((unhide E3).bel.trans (b4.mono (unhide E3).bel.size))
  have OO4 := hide (own_later (unhide E3).own b4)
  clear q4 b4 k5 k6 k7
  go_wp2_with fail
  refine (with_v (Rd.owned (unhide Q4).1) (Sp.pack_lt _) (by rw [Sp.pack_len]; omega) ((unhide HT).below (unhide BB4) h0) (unhide OO4) (by simp only [List.length_append, Sp.sealed_len, Sp.pack_len, List.length_nil, Sp.head, List.length_cons]; omega) (unhide BB4).size).mono ?_
  rintro e w4 ⟨x4, rfl, ho4, hs4, hg4, _⟩
  have E4 := hide (EnSt.next (unhide E3) (unhide Q4).2 hg4 ho4)
  clear ho4 hs4 hg4 Q4 BB4 OO4
  obtain ⟨k8, k9, k10, k11, k12⟩ := unhide HK3 _ (unhide E4).bel
  clear E3
  go_wp2_with fail
  refine (mbytes_any _ _ _ _ _ (Sp.marks vs.length ms) w4 ((unhide HR).2.2.later (unhide E4).bel) (by omega)).mono ?_
  rintro e u5 ⟨y5, rfl, q5, b5⟩
  have Q5 := hide (And.intro q5 b5)
  have BB5 := hide ((unhide E4).bel.trans (b5.mono (unhide E4).bel.size))
  have OO5 := hide (own_later (unhide E4).own b5)
  clear q5 b5 k8 k9 k10 k11 k12
  go_wp2_with fail
  refine (with_v (Rd.owned (unhide Q5).1) (Sp.pack_lt _) (by rw [Sp.pack_len]; omega) ((unhide HT).below (unhide BB5) h0) (unhide OO5) (by simp only [List.length_append, Sp.sealed_len, Sp.pack_len, List.length_nil, Sp.head, List.length_cons]; omega) (unhide BB5).size).mono ?_
  rintro e w5 ⟨x5, rfl, ho5, hs5, hg5, _⟩
  have E5 := hide (EnSt.next (unhide E4) (unhide Q5).2 hg5 ho5)
  clear ho5 hs5 hg5 Q5 BB5 OO5
  go_wp2
  go_ret
  exact ⟨x5, rfl, by rw [By_len, HEQ.out]; exact (unhide E5).own, (unhide E5).bel⟩
end Pr
end Go.Proofs.YtolkjadklbchfaaDoor
