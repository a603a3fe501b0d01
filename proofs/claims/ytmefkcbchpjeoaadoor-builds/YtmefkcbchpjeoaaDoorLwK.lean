/- Walks of the law: plays, Builds. -/
import Derived.Test.YtmefkcbchpjeoaaDoorLwJ
open Go Go.RowKit
namespace Go.Proofs.YtmefkcbchpjeoaaDoor
namespace Lw
open Mem Rf Pr

def opc (d : OpD) : List Value := [.int .i64 d.K, .int .i64 d.A, .int .i64 d.B, .int .i64 d.C, .int .i64 d.D, .int .u64 d.u, .int .u64 d.x, .slice d.pv d.n d.cv, .slice d.pm d.m d.cm, .string d.S]

/-- The script in memory, in blocks below base. -/
structure Scr (base : Nat) (w : World) (ps : Option Addr) (ds : List OpD) : Prop where
  cells : ∀ i (h : i < ds.length), ∃ b o, ps = some ⟨b, o, none⟩ ∧ b < base ∧ ∀ j u, (opc ds[i])[j]? = some u → w.cell? ⟨b, o + i * 10 + j, none⟩ = some u
  ok : ∀ d ∈ ds, OpOk base w d

theorem zero_world (w : World) (o1 o2 : Obj) : WSt w.heap.size w.heap.size w (((w.alloc (.cells #[.slice none 0 0, .slice none 0 0, .slice none 0 0] 32)).alloc o1).alloc o2) (.slice none 0 0) (.slice none 0 0) (.slice none 0 0) [] [] := by
  refine ⟨Nat.le_refl _, ?_, World.ownsRow_nil _ _ _ _, World.ownsRow_nil _ _ _ _, World.ownsRow_nil _ _ _ _, Ap.nil _, Ap.nil _, Ap.nil _, by simp [Value.ownBlock], by simp [Value.ownBlock], by simp [Value.ownBlock], by simp, by simp, by simp, ?_⟩
  · rw [Below.heap_alloc _ _ _ (by simp; omega), Below.heap_alloc _ _ _ (by simp)]
    exact heap_alloc_new _ _
  · exact (((Below.refl _ _).alloc (Nat.le_refl _) _).alloc (by simp) _).alloc (by simp; omega) _

theorem lit_v (w : World) : Rd (w.heap.size + 2) (((w.alloc (.cells #[.slice none 0 0, .slice none 0 0, .slice none 0 0] 32)).alloc (.cells #[.int .u64 5, .int .u64 2, .int .u64 5] 34)).alloc (.cells #[.int .i64 1] 3)) (.slice (some ⟨w.heap.size + 1, 0, none⟩) 3 3) (U64 [5, 2, 5]) := by
  refine ⟨_, 3, rfl, Nat.le_refl _, .inr ⟨w.heap.size + 1, 0, rfl, by omega, ?_⟩⟩
  have hb : (((w.alloc (.cells #[.slice none 0 0, .slice none 0 0, .slice none 0 0] 32)).alloc (.cells #[.int .u64 5, .int .u64 2, .int .u64 5] 34)).alloc (.cells #[.int .i64 1] 3)).heap[w.heap.size + 1]? = some (.cells #[.int .u64 5, .int .u64 2, .int .u64 5] 34) := by
    rw [Below.heap_alloc _ _ _ (by simp)]
    have := heap_alloc_new (w.alloc (.cells #[.slice none 0 0, .slice none 0 0, .slice none 0 0] 32)) (.cells #[.int .u64 5, .int .u64 2, .int .u64 5] 34)
    simpa using this
  intro j u hu
  rw [Nat.zero_add, cell_of_row _ _ _ _ _ (0, 0) hb]
  simpa [U64] using hu

theorem lit_m (w : World) : Rd (w.heap.size + 3) (((w.alloc (.cells #[.slice none 0 0, .slice none 0 0, .slice none 0 0] 32)).alloc (.cells #[.int .u64 5, .int .u64 2, .int .u64 5] 34)).alloc (.cells #[.int .i64 1] 3)) (.slice (some ⟨w.heap.size + 2, 0, none⟩) 1 1) (I64 [1]) := by
  refine ⟨_, 1, rfl, Nat.le_refl _, .inr ⟨w.heap.size + 2, 0, rfl, by omega, ?_⟩⟩
  have hb : (((w.alloc (.cells #[.slice none 0 0, .slice none 0 0, .slice none 0 0] 32)).alloc (.cells #[.int .u64 5, .int .u64 2, .int .u64 5] 34)).alloc (.cells #[.int .i64 1] 3)).heap[w.heap.size + 2]? = some (.cells #[.int .i64 1] 3) := by
    have := heap_alloc_new ((w.alloc (.cells #[.slice none 0 0, .slice none 0 0, .slice none 0 0] 32)).alloc (.cells #[.int .u64 5, .int .u64 2, .int .u64 5] 34)) (.cells #[.int .i64 1] 3)
    simpa using this
  intro j u hu
  rw [Nat.zero_add, cell_of_row _ _ _ _ _ (0, 0) hb]
  simpa [I64] using hu

/-- What plays holds at each round. -/
def PSt (w wr : World) (k : Nat) : Prop := ∃ xv yv bv is bs, WSt w.heap.size w.heap.size w wr xv yv bv is bs ∧ bs.length ≤ k

theorem first_any (w : World) :
    Calls Tryd.prog 5 #[.pointer (some ⟨w.heap.size, 0, none⟩), .agg #[.int .i64 0, .int .i64 0, .int .i64 0, .int .i64 0, .int .i64 0, .int .u64 0, .int .u64 0, .slice (some ⟨w.heap.size + 1, 0, none⟩) 3 3, .slice (some ⟨w.heap.size + 2, 0, none⟩) 1 1, .string ByteArray.empty]]
      (((w.alloc (.cells #[.slice none 0 0, .slice none 0 0, .slice none 0 0] 32)).alloc (.cells #[.int .u64 5, .int .u64 2, .int .u64 5] 34)).alloc (.cells #[.int .i64 1] 3)) fun e w' => e = .returned (.bool true) ∧ PSt w w' 0 := by
  have hz := zero_world w (.cells #[.int .u64 5, .int .u64 2, .int .u64 5] 34) (.cells #[.int .i64 1] 3)
  refine (built_any _ _ _ _ _ _ _ _ _ hz 0 0 0 0 0 0 0 ByteArray.empty _ 3 3 [5, 2, 5] ⟨(lit_v w).mono (by simp), ?_⟩ (by simp) (by omega) _ 1 1 [1] ⟨(lit_m w).mono (by simp), ?_⟩ (by omega)).mono ?_
  · intro _ k hk hm
    simp [Value.ownBlock] at hk
    rcases hm with q | q | q | q
    · omega
    · simp [Value.ownBlock] at q
    · simp [Value.ownBlock] at q
    · simp [Value.ownBlock] at q
  · intro _ k hk hm
    simp [Value.ownBlock] at hk
    rcases hm with q | q | q | q
    · omega
    · simp [Value.ownBlock] at q
    · simp [Value.ownBlock] at q
    · simp [Value.ownBlock] at q
  · rintro e w' ⟨rfl, xv', yv', is', hst⟩
    exact ⟨rfl, xv', yv', _, is', [], hst, by simp⟩

set_option maxHeartbeats 1000000 in
theorem plays_any (w : World) (ps : Option Addr) (L cs : Nat) (ds : List OpD) (hs : Scr w.heap.size w ps ds) (hL : L = ds.length) (hL2 : L ≤ 1200000000000) (hT : Tab w) :
    Calls Tryd.prog 4 #[.slice ps L cs, .int .i64 2] w fun e w' => e = .returned (.bool true) ∧ Below w.heap.size w w' := by
  have HSC := hide hs
  have HT := hide hT
  have h0 := hT.1
  subst hL
  have HF := hide (first_any w)
  clear hs hT
  go_enter Tryd.func4, Tryd.ntmps4
  go_wp2_with fail
  refine (unhide HF).mono ?_
  rintro e w1 ⟨rfl, hst⟩
  have HS := hide hst
  clear hst HF
  go_wp2_with fail
  go_loopw [6, 7, 8] (fun ok ii _ wr => ∃ k : Nat, k ≤ ds.length ∧ ii = .int .i64 k ∧ ok = .bool true ∧ PSt w wr k) (fun _ ii _ _ => ds.length - (intOf ii).toNat)
  case atStart => exact ⟨0, Nat.zero_le _, rfl, rfl, unhide HS⟩
  case round =>
    obtain ⟨k, hk, rfl, rfl, hst⟩ := hrel
    clear HS
    by_cases hlt : k < ds.length
    · obtain ⟨b, o, hpe, hb, hcs⟩ := (unhide HSC).cells k hlt
      subst hpe
      obtain ⟨xv, yv, bv, is, bs, hw, hbl⟩ := hst
      have hcw : ∀ j u, (opc ds[k])[j]? = some u → wr.cell? ⟨b, o + k * 10 + j, none⟩ = some u := fun j u hu => (hw.bel.cell (p := ⟨b, o + k * 10 + j, none⟩) hb).trans (hcs j u hu)
      have e0 : wr.cell? ⟨b, o + k * 10, none⟩ = some (.int .i64 ds[k].K) := hcw 0 _ rfl
      have e1 := hcw 1 _ rfl
      have e2 := hcw 2 _ rfl
      have e3 := hcw 3 _ rfl
      have e4 := hcw 4 _ rfl
      have e5 := hcw 5 _ rfl
      have e6 := hcw 6 _ rfl
      have e7 := hcw 7 _ rfl
      have e8 := hcw 8 _ rfl
      have e9 := hcw 9 _ rfl
      have hok := ((unhide HSC).ok ds[k] (List.getElem_mem hlt)).below hw.bel
      by_cases hK : ds[k].K ≤ 2
      · have HST := hide (step_any _ _ _ wr xv yv bv is bs hw ds[k] hok hK (by omega) (unhide HT) h0)
        have hKi : ¬ (2 : Int) < ds[k].K := by omega
        clear hcs hcw hok hw
        generalize ds[k] = d at *
        go_wp2_with fail
        refine (unhide HST).mono ?_
        rintro e w2 ⟨rfl, xv', yv', bv', is', bs', hw2, hb2⟩
        have HLK := hide (looks_any _ _ _ w2 xv' yv' bv' is' bs' hw2 (by omega))
        have HW2 := hide hw2
        clear hw2 HST
        go_wp2_with fail
        refine (unhide HLK).mono ?_
        rintro e w3 ⟨rfl, hb3⟩
        have HP : Hid (PSt w w3 (k + 1)) := ⟨xv', yv', bv', is', bs', (unhide HW2).below hb3, by omega⟩
        clear hb3 HW2 HLK
        go_wp2
        go_roundw
        case rel => exact ⟨k + 1, by omega, by go_num, rfl, unhide HP⟩
        case measure => simp [intOf]; omega
      · have hKi : (2 : Int) < ds[k].K := by omega
        have HP : Hid (PSt w wr (k + 1)) := ⟨xv, yv, bv, is, bs, hw, by omega⟩
        clear hcs hcw hok hw
        generalize ds[k] = d at *
        go_wp2
        go_roundw
        case rel => exact ⟨k + 1, by omega, by go_num, rfl, unhide HP⟩
        case measure => simp [intOf]; omega
    · obtain ⟨xv, yv, bv, is, bs, hw, hbl⟩ := hst
      have hbl2 : bs.length ≤ ds.length := by omega
      clear hbl HSC
      have HW := hide hw
      clear hw
      go_wp2_with fail
      go_loopw [6, 9] (fun ok ii wt => ∃ j : Nat, j ≤ is.length ∧ ii = .int .i64 j ∧ ok = .bool true ∧ ∃ bv' bs', WSt w.heap.size w.heap.size w wt xv yv bv' is bs' ∧ bs'.length ≤ ds.length + j) (fun _ ii _ => is.length - (intOf ii).toNat)
      case atStart => exact ⟨0, Nat.zero_le _, rfl, rfl, bv, bs, unhide HW, by omega⟩
      case round =>
        obtain ⟨j, hj, rfl, rfl, bv', bs', hw2, hb2⟩ := hrel
        clear HW
        have hl6 := hw2.ilen
        obtain ⟨c0, _, _, _⟩ := hw2.cells
        obtain ⟨px, cx, hxe, hcx⟩ := own_slice hw2.ox
        subst hxe
        by_cases hjl : j < is.length
        · have HE := hide (encoded_any _ _ _ _ _ _ _ _ _ j hw2 hjl (by omega) (unhide HT) h0)
          clear hw2
          go_wp2_with fail
          refine (unhide HE).mono ?_
          rintro e w3 ⟨rfl, bv3, bs3, hw3, hb3⟩
          have HP : Hid (∃ bv' bs', WSt w.heap.size w.heap.size w w3 (.slice px is.length cx) yv bv' is bs' ∧ bs'.length ≤ ds.length + (j + 1)) := ⟨bv3, bs3, hw3, by omega⟩
          clear hw3 HE
          go_wp2
          go_roundw
          case rel => exact ⟨j + 1, by omega, by go_num, rfl, unhide HP⟩
          case measure => simp [intOf]; omega
        · have HB := hide hw2.bel
          clear hw2
          go_wp2
          all_goals go_ret
          all_goals exact ⟨rfl, unhide HB⟩

end Lw
end Go.Proofs.YtmefkcbchpjeoaaDoor
