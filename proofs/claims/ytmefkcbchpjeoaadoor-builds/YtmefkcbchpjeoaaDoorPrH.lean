/- Walks of the program: Build. -/
import Derived.Test.YtmefkcbchpjeoaaDoorPrC
import Derived.Test.YtmefkcbchpjeoaaDoorPrE
import Derived.Test.YtmefkcbchpjeoaaDoorPrG
open Go Go.RowKit
namespace Go.Proofs.YtmefkcbchpjeoaaDoor
namespace Pr
open Mem Rf

/-- Marks that fit are numbers below n, and no more than n of them. -/
theorem upTo_nat {n : Nat} {lo : Int} {ms : List Int} (h0 : 0 ≤ lo) (hlo : lo ≤ n) (h : Sp.upTo n lo ms = true) : ∃ ns : List Nat, ms = NI ns ∧ (∀ x ∈ ns, x < n) ∧ (ms.length : Int) ≤ n - lo := by
  induction ms generalizing lo with
  | nil => exact ⟨[], rfl, by simp, by simp; omega⟩
  | cons p l ih =>
    simp only [Sp.upTo, Bool.and_eq_true, decide_eq_true_eq] at h
    obtain ⟨⟨h1, h2⟩, h3⟩ := h
    obtain ⟨ns, rfl, hx, hl⟩ := ih (by omega) (by omega) h3
    obtain ⟨q, rfl⟩ := Int.eq_ofNat_of_zero_le (show 0 ≤ p by omega)
    refine ⟨q :: ns, rfl, ?_, ?_⟩
    · intro x hx'
      rcases List.mem_cons.1 hx' with rfl | h
      · omega
      · exact hx x h
    · simp only [List.length_cons]
      omega

/-- An index in memory: its blocks lie from lo on and below hi. -/
structure Idx (lo hi : Nat) (w : World) (X : Nat) (vs ms : List Nat) : Prop where
  at_ : lo ≤ X ∧ X < hi
  blk : ∃ v1 v2 v3, w.heap[X]? = some (.cells #[.int .i64 (Sp.widthOf vs : Nat), .int .i64 (vs.length : Nat), .int .i64 (ms.length : Nat), v1, v2, v3] 68 (0, 0)) ∧
    w.ownsRow lo 5 1 v1 (Sp.pack (Sp.layers vs)).length (By (Sp.pack (Sp.layers vs))) ∧ (∀ k, v1.ownBlock = some k → k < hi) ∧
    w.ownsRow lo 5 1 v2 (Sp.pack (Sp.brackets vs)).length (By (Sp.pack (Sp.brackets vs))) ∧ (∀ k, v2.ownBlock = some k → k < hi) ∧
    w.ownsRow lo 5 1 v3 (Sp.pack (Sp.marks vs.length ms)).length (By (Sp.pack (Sp.marks vs.length ms))) ∧ (∀ k, v3.ownBlock = some k → k < hi)

/-- What may be built. -/
structure Fits (vs ms : List Nat) : Prop where
  big : ∀ x ∈ vs, x < 18446744073709551616
  mlt : ∀ x ∈ ms, x < vs.length
  len : vs.length ≤ 200
  mlen : ms.length ≤ vs.length

theorem idx_made {w w3 : World} {v1 v2 v3 : Value} {vs ms : List Nat} {wd n m : Nat} (hwd : wd = Sp.widthOf vs) (hn : n = vs.length) (hm : m = ms.length) (hb : Below w.heap.size w w3)
    (o1 : w3.ownsRow w.heap.size 5 1 v1 (Sp.pack (Sp.layers vs)).length (By (Sp.pack (Sp.layers vs)))) (o2 : w3.ownsRow w.heap.size 5 1 v2 (Sp.pack (Sp.brackets vs)).length (By (Sp.pack (Sp.brackets vs))))
    (o3 : w3.ownsRow w.heap.size 5 1 v3 (Sp.pack (Sp.marks n ms)).length (By (Sp.pack (Sp.marks n ms)))) :
    Idx w.heap.size (w3.alloc (.cells #[.int .i64 (wd : Nat), .int .i64 (n : Nat), .int .i64 (m : Nat), v1, v2, v3] 68)).heap.size (w3.alloc (.cells #[.int .i64 (wd : Nat), .int .i64 (n : Nat), .int .i64 (m : Nat), v1, v2, v3] 68)) w3.heap.size vs ms ∧
      Below w.heap.size w (w3.alloc (.cells #[.int .i64 (wd : Nat), .int .i64 (n : Nat), .int .i64 (m : Nat), v1, v2, v3] 68)) := by
  subst hwd
  subst hn
  subst hm
  refine ⟨⟨⟨hb.size, by simp⟩, v1, v2, v3, heap_alloc_new _ _, o1.alloc _, ?_, o2.alloc _, ?_, o3.alloc _, ?_⟩, hb.alloc hb.size _⟩
  · intro k hk
    have := (o1.lt k hk).2
    simp
    omega
  · intro k hk
    have := (o2.lt k hk).2
    simp
    omega
  · intro k hk
    have := (o3.lt k hk).2
    simp
    omega

set_option maxHeartbeats 1000000 in
theorem build_long (pv : Option Addr) (n cv : Nat) (y : Value) (w : World) (hn : n ≤ 100000000000000) (h : 200 < n) :
    Calls Tryd.prog 9 #[.slice pv n cv, y] w fun e w' => e = .returned (.tuple #[.pointer none, .int .i64 1]) ∧ w' = w := by
  go_enter Tryd.func9, Tryd.ntmps9
  go_wp2
  go_ret2
  exact ⟨rfl, rfl⟩

set_option maxHeartbeats 1000000 in
theorem build_bad (pv : Option Addr) (n cv : Nat) (p : Option Addr) (B m c : Nat) (ms : List Int) (w : World) (hr : Rd B w (.slice p m c) (I64 ms)) (hm : m ≤ 100000000000000) (h : n ≤ 200) (hbad : Sp.upTo n 0 ms = false) :
    Calls Tryd.prog 9 #[.slice pv n cv, .slice p m c] w fun e w' => e = .returned (.tuple #[.pointer none, .int .i64 2]) ∧ w' = w := by
  have hf := fit_any n p B m c ms w hr h hm
  rw [hbad] at hf
  have HF := hide hf
  clear hf hbad
  go_enter Tryd.func9, Tryd.ntmps9
  go_wp2_with (go_at_call 19; refine at_same (unhide HF) ?_)
  go_ret2
  exact ⟨rfl, rfl⟩

set_option maxHeartbeats 1000000 in
theorem build_good (pv : Option Addr) (n cv : Nat) (vs : List Nat) (p : Option Addr) (B m c : Nat) (ms : List Nat) (w : World) (hrv : Rd B w (.slice pv n cv) (U64 vs)) (hr : Rd B w (.slice p m c) (I64 (NI ms))) (hB : B ≤ w.heap.size) (hg : Fits vs ms) (hok : Sp.upTo n 0 (NI ms) = true) :
    Calls Tryd.prog 9 #[.slice pv n cv, .slice p m c] w fun e w' => ∃ X, e = .returned (.tuple #[.pointer (some ⟨X, 0, none⟩), .int .i64 0]) ∧ Idx w.heap.size w'.heap.size w' X vs ms ∧ Below w.heap.size w w' := by
  obtain ⟨hl, hlc⟩ := hrv.len
  rw [U64_len] at hl
  obtain ⟨hl2, hlc2⟩ := hr.len
  rw [NI_len] at hl2
  have hn := hg.len
  have hm := hg.mlen
  have hf := fit_any n p B m c (NI ms) w hr (by omega) (by omega)
  rw [hok] at hf
  have HF := hide hf
  have HWI := hide (lwidth_any pv B n cv vs w hrv hg.big (by omega))
  have HRV := hide hrv
  have HR := hide hr
  have HG := hide hg
  have HL := hide hl
  have HL2 := hide hl2
  have hn2 : n ≤ 200 := by omega
  have hm2 : m ≤ 200 := by omega
  obtain ⟨wd, hwd⟩ : ∃ wd, wd = Sp.widthOf vs := ⟨_, rfl⟩
  rw [← hwd] at HWI
  have HWD := hide hwd
  have hw64 : wd ≤ 64 := by rw [hwd]; exact Sp.widthOf_le vs hg.big
  clear hf hok hrv hr hg hl hl2 hn hm hwd
  go_enter Tryd.func9, Tryd.ntmps9
  go_wp2_with (first
    | (go_at_call 19; refine at_same (unhide HF) ?_)
    | (go_at_call 20; refine at_same (unhide HWI) ?_))
  refine (lrow_any pv B n cv wd vs w (unhide HRV) hB (unhide HG).big (by omega) (unhide HWD)).mono ?_
  rintro e w1 ⟨v1, rfl, o1, b1⟩
  have O1 := hide o1
  have B1 := hide b1
  clear o1 b1 HF HWI
  go_wp2_with fail
  refine (brow_any pv B n cv vs w1 ((unhide HRV).below ((unhide B1).mono hB)) (Nat.le_trans hB (unhide B1).size) (by omega)).mono ?_
  rintro e w2 ⟨v2, rfl, o2, b2⟩
  have O2 := hide (own_base o2 (unhide B1).size)
  have O1b := hide (own_later (unhide O1) b2)
  have B2 := hide ((unhide B1).trans (b2.mono (unhide B1).size))
  clear o2 b2 O1 B1
  go_wp2_with fail
  refine (mrow_any p B n m c ms w2 ((unhide HR).below ((unhide B2).mono hB)) (Nat.le_trans hB (unhide B2).size) (by rw [unhide HL]; exact (unhide HG).mlt) (by omega) (by omega)).mono ?_
  rintro e w3 ⟨v3, rfl, o3, b3⟩
  have O3 := hide (own_base o3 (unhide B2).size)
  have O1c := hide (own_later (unhide O1b) b3)
  have O2c := hide (own_later (unhide O2) b3)
  have B3 := hide ((unhide B2).trans (b3.mono (unhide B2).size))
  clear o3 b3 O1b O2 B2
  obtain ⟨p1, c1, rfl, _⟩ := own_slice (unhide O1c)
  obtain ⟨p2, c2, rfl, _⟩ := own_slice (unhide O2c)
  obtain ⟨p3, c3, rfl, _⟩ := own_slice (unhide O3)
  go_wp2
  go_ret2
  exact ⟨w3.heap.size, rfl, idx_made (unhide HWD) (unhide HL) (unhide HL2) (unhide B3) (unhide O1c) (unhide O2c) (unhide O3)⟩
end Pr
end Go.Proofs.YtmefkcbchpjeoaaDoor
