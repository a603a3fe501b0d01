/- Walks of the program: layer.Row with its closure. -/
import Derived.Test.YtmefkcbchpjeoaaDoorPrF
import Derived.Deep.RegionWith
import Derived.Deep.RegionLaw
open Go Go.RowKit
namespace Go.Proofs.YtmefkcbchpjeoaaDoor
namespace Pr
open Mem Rf

theorem own_setCell_ne {w : World} {base : Nat} {e : TypeId} {size : Nat} {v : Value} {n : Nat} {xs : List Value} (h : w.ownsRow base e size v n xs) {a : Addr} (ha : ∀ g, v.ownBlock = some g → g ≠ a.block) (u : Value) : (w.setCell a u).ownsRow base e size v n xs := by
  refine ⟨h.1, ?_⟩
  rcases h.2 with hn | ⟨g, cap, cur, rfl, hbg, hgg, rest⟩
  · exact .inl hn
  · exact .inr ⟨g, cap, cur, rfl, hbg, by rw [Below.heap_setCell _ _ _ _ (ha g rfl)]; exact hgg, rest⟩

/-- The two variables that the closure holds, and what they hold. -/
structure Var2 (base : Nat) (W0 w : World) (X1 X2 : Nat) (ou no : Value) (n : Nat) (now : List Nat) (row : List Bool) : Prop where
  c1 : w.cell? ⟨X1, 0, none⟩ = some ou
  c2 : w.cell? ⟨X2, 0, none⟩ = some no
  f1 : w.frozen? ⟨X1, 0, none⟩ = false
  f2 : w.frozen? ⟨X2, 0, none⟩ = false
  o1 : w.ownsRow base 4 1 ou row.length (Bo row)
  o2 : w.ownsRow base 34 1 no n (U64 now)
  ap : Ap no ou
  n1 : ∀ g, ou.ownBlock = some g → g ≠ X1 ∧ g ≠ X2
  n2 : ∀ g, no.ownBlock = some g → g ≠ X1 ∧ g ≠ X2
  bel : Below base W0 w

theorem Var2.put {base : Nat} {W0 wr w1 : World} {X1 X2 : Nat} {ou no ou' : Value} {n : Nat} {now : List Nat} {row : List Bool} {b : Bool} {o : Obj} (h : Var2 base W0 wr X1 X2 ou no n now row) (hb0 : base ≤ W0.heap.size) (hx1 : base ≤ X1) (hne : X1 ≠ X2)
    (hown : w1.ownsRow base 4 1 ou' (row.length + [Value.bool b].length) (Bo row ++ [Value.bool b])) (hg : (wr.alloc o).grownBy w1 ou.ownBlock) (hat : ou'.ownBlock = ou.ownBlock ∨ ou'.ownBlock = some (wr.alloc o).heap.size) :
    w1.cell? ⟨X1, 0, none⟩ = some ou ∧ w1.frozen? ⟨X1, 0, none⟩ = false ∧ Var2 base W0 (w1.setCell ⟨X1, 0, none⟩ ou') X1 X2 ou' no n now (row ++ [b]) := by
  have l1 := World.block_lt_of_cell? _ _ h.c1
  have l2 := World.block_lt_of_cell? _ _ h.c2
  simp only at l1 l2
  have e1 : w1.heap[X1]? = wr.heap[X1]? := by
    rw [hg.block X1 (by simp; omega) (fun e => (h.n1 X1 e.symm).1 rfl)]
    exact Below.heap_alloc _ _ _ l1
  have e2 : w1.heap[X2]? = wr.heap[X2]? := by
    rw [hg.block X2 (by simp; omega) (fun e => (h.n1 X2 e.symm).2 rfl)]
    exact Below.heap_alloc _ _ _ l2
  have c1 : w1.cell? ⟨X1, 0, none⟩ = some ou := (World.cell?_of_block (a := ⟨X1, 0, none⟩) e1).trans h.c1
  have c2 : w1.cell? ⟨X2, 0, none⟩ = some no := (World.cell?_of_block (a := ⟨X2, 0, none⟩) e2).trans h.c2
  have f1 : w1.frozen? ⟨X1, 0, none⟩ = false := (World.frozen?_of_block (a := ⟨X1, 0, none⟩) e1).trans h.f1
  have f2 : w1.frozen? ⟨X2, 0, none⟩ = false := (World.frozen?_of_block (a := ⟨X2, 0, none⟩) e2).trans h.f2
  have r2 := app_own h.o2 h.ap hg hat
  have r4 := app_below h.bel hb0 h.o1 hg
  have nn : ∀ g, ou'.ownBlock = some g → g ≠ X1 ∧ g ≠ X2 := by
    intro g hgg
    rcases hat with q | q
    · exact h.n1 g (q ▸ hgg)
    · rw [q] at hgg
      simp at hgg
      exact ⟨by omega, by omega⟩
  refine ⟨c1, f1, World.cell?_setCell_same _ _ _ c1, ?_, ?_, ?_, ?_, ?_, r2.2, nn, h.n2, r4.1.setCell hx1 _⟩
  · rw [World.cell?_setCell_other _ _ _ _ (by simp)]
    exact c2
  · simpa using f1
  · simpa using f2
  · rw [Bo_app, List.length_append]
    exact own_setCell_ne hown (fun g hgg => (nn g hgg).1) _
  · exact own_setCell_ne r2.1 (fun g hgg => (h.n2 g hgg).1) _

/-- Behind parted: the order is another row. -/
theorem Var2.turn {base : Nat} {W0 wr w1 : World} {X1 X2 : Nat} {ou no no' : Value} {n : Nat} {now now' : List Nat} {row : List Bool} (h : Var2 base W0 wr X1 X2 ou no n now row) (hx2 : base ≤ X2) (hne : X1 ≠ X2) (hbase : base ≤ wr.heap.size)
    (hown : w1.ownsRow wr.heap.size 34 1 no' n (U64 now')) (hb : Below wr.heap.size wr w1) :
    w1.cell? ⟨X2, 0, none⟩ = some no ∧ w1.frozen? ⟨X2, 0, none⟩ = false ∧ Var2 base W0 (w1.setCell ⟨X2, 0, none⟩ no') X1 X2 ou no' n now' row := by
  have l1 := World.block_lt_of_cell? _ _ h.c1
  have l2 := World.block_lt_of_cell? _ _ h.c2
  simp only at l1 l2
  have c1 : w1.cell? ⟨X1, 0, none⟩ = some ou := (hb.cell (p := ⟨X1, 0, none⟩) l1).trans h.c1
  have c2 : w1.cell? ⟨X2, 0, none⟩ = some no := (hb.cell (p := ⟨X2, 0, none⟩) l2).trans h.c2
  have f1 : w1.frozen? ⟨X1, 0, none⟩ = false := (hb.frozen (p := ⟨X1, 0, none⟩) l1).trans h.f1
  have f2 : w1.frozen? ⟨X2, 0, none⟩ = false := (hb.frozen (p := ⟨X2, 0, none⟩) l2).trans h.f2
  have r1 := own_later h.o1 hb
  have nn : ∀ g, no'.ownBlock = some g → g ≠ X1 ∧ g ≠ X2 := by
    intro g hgg
    have := (hown.lt g hgg).1
    omega
  refine ⟨c2, f2, ?_, World.cell?_setCell_same _ _ _ c2, ?_, ?_, ?_, ?_, ?_, h.n1, nn, (h.bel.trans (hb.mono hbase)).setCell hx2 _⟩
  · rw [World.cell?_setCell_other _ _ _ _ (by simp)]
    exact c1
  · simpa using f1
  · simpa using f2
  · exact own_setCell_ne r1 (fun g hgg => (h.n1 g hgg).2) _
  · exact own_setCell_ne (own_base hown hbase) (fun g hgg => (nn g hgg).2) _
  · exact (ap_of (fun k hk => (h.o1.lt k hk).2) hown (Nat.le_refl _)).symm

theorem grown_drew {w w' : World} {row : Option Nat} (h : w.drew.grownBy w' row) : w.grownBy w' row := ⟨h.os, h.tape, h.output, h.size, h.block⟩

set_option maxHeartbeats 1000000 in
theorem clos_any (base : Nat) (W0 w : World) (X1 X2 : Nat) (ou no : Value) (n k : Nat) (now : List Nat) (row : List Bool) (h : Var2 base W0 w X1 X2 ou no n now row) (hb0 : base ≤ W0.heap.size) (hx1 : base ≤ X1) (hx2 : base ≤ X2) (hne : X1 ≠ X2)
    (hv : ∀ x ∈ now, x < 18446744073709551616) (hlen : now.length = n) (hn : n ≤ 1000) (hk : k < 64) (hrow : row.length ≤ 64000) :
    Calls Tryd.prog 56 #[.int .i64 k, .pointer (some ⟨X2, 0, none⟩), .pointer (some ⟨X1, 0, none⟩)] w fun e w' => e = .returned (.tuple #[]) ∧ ∃ ou' no', Var2 base W0 w' X1 X2 ou' no' n (Sp.part now k) (row ++ now.map (fun v => v.testBit k)) := by
  obtain ⟨pn, cn, rfl, hcn⟩ := own_slice h.o2
  have hcell := h.c2
  have H0 := hide h
  have HV := hide hv
  have HL := hide hlen
  clear h hv hlen
  go_enter Tryd.func56, Tryd.ntmps56
  go_wp2
  go_loopw [8] (fun ii wr => ∃ (i : Nat) (ou : Value), i ≤ n ∧ ii = .int .i64 i ∧ Var2 base W0 wr X1 X2 ou (.slice pn n cn) n now (row ++ bts now k i)) (fun ii _ => n - (intOf ii).toNat)
  case atStart => exact ⟨0, ou, Nat.zero_le _, rfl, by simpa [bts] using unhide H0⟩
  case round =>
    obtain ⟨i, ou, hi, rfl, hst⟩ := hrel
    clear H0 hcell
    by_cases hlt : i < n
    · have hlt' : i < now.length := by rw [unhide HL]; exact hlt
      obtain ⟨b, o, hpe, hb, hc⟩ := (Rd.owned hst.o2).at i _ (U64_at now i hlt')
      subst hpe
      have hx : now[i] < 18446744073709551616 := unhide HV _ (List.getElem_mem hlt')
      have HC := hide (fun W => has_any now[i] k W hx hk)
      have HBT := hide (bts_snoc (k := k) hlt')
      have hc1 := hst.c1
      have hf1 := hst.f1
      have hca : ∀ o, (wr.alloc o).cell? ⟨X1, 0, none⟩ = some ou := fun o => (((Below.refl wr.heap.size wr).alloc (Nat.le_refl _) o).cell (p := ⟨X1, 0, none⟩) (World.block_lt_of_cell? _ _ hc1)).trans hc1
      have hsz : base ≤ wr.heap.size := Nat.le_trans hb0 hst.bel.size
      have hrl : (row ++ bts now k i).length ≤ 10000000000000 := by
        rw [List.length_append]
        have : (bts now k i).length ≤ i := by unfold bts; rw [List.length_map]; exact List.length_take_le _ _
        omega
      have HST := hide hst
      clear hst
      generalize hxx : now[i] = x at *
      clear hxx
      generalize x.testBit k = bit at *
      generalize hrr : row ++ bts now k i = r at *
      have HRR := hide hrr
      clear hrr
      go_wp2_with fail
      go_region_law (first
        | (refine step_app _ (by rfl) (.tmp 12) (.tmp 16) 74 (by rfl) base 4 (.bool false) 1 Tryd.underlying74 Ty.bool rfl ou _ _ (by rfl) ((unhide HST).o1.alloc _) _ _ (by rfl) ⟨_, Rd.one wr (.bool bit) 4⟩ (one_bool _) (room1 hrl) (room1b hrl) (by simp; omega) ?_; intro v1 w1 hown1 hg1 hb1; obtain ⟨p1, c1, rfl, _⟩ := own_slice hown1; have R := Var2.put (unhide HST) hb0 hx1 hne hown1 (grown_drew hg1) hb1; have hcw := R.1; have hfw := R.2.1; have HR := hide R.2.2; clear R hown1 hg1 hb1)
        | (rw [if_pos (by simp [Region.wanted])]; go_simp; go_at_call 57; refine at_same (unhide HC _) ?_))
      all_goals go_wp2
      all_goals
        go_roundw
        case rel => exact ⟨i + 1, _, by omega, by go_num, by rw [unhide HBT, ← List.append_assoc, unhide HRR]; exact unhide HR⟩
        case measure => simp [intOf]; omega
    · have he : i = n := by omega
      subst he
      have hbt : bts now k i = now.map (fun v => v.testBit k) := by unfold bts; rw [List.take_of_length_le (by rw [unhide HL]; exact Nat.le_refl _)]
      rw [hbt] at hst
      have hc2 := hst.c2
      have hf2 := hst.f2
      have HP := hide (parted_any pn _ i cn k now wr (Rd.owned hst.o2) (Nat.le_refl _) (unhide HV) hn hk)
      have hsz : base ≤ wr.heap.size := Nat.le_trans hb0 hst.bel.size
      have HST := hide hst
      clear hst hbt
      go_wp2_with fail
      refine (unhide HP).mono ?_
      rintro e w1 ⟨v1, rfl, ho1, hb1⟩
      obtain ⟨p1, c1, rfl, _⟩ := own_slice ho1
      have R := Var2.turn (unhide HST) hx2 hne hsz ho1 hb1
      have hcw := R.1
      have hfw := R.2.1
      have HR := hide R.2.2
      clear R ho1 hb1
      go_wp2
      go_end0
      exact ⟨rfl, _, _, unhide HR⟩

/-- What the layers' way down holds. -/
structure LaySt (base : Nat) (W0 w : World) (X1 X2 wd n : Nat) (ly : List Bool) (k : Nat) : Prop where
  ex : ∃ ou no now done, Var2 base W0 w X1 X2 ou no n now done ∧ now.length = n ∧ (∀ x ∈ now, x < 18446744073709551616) ∧ ly = done ++ Sp.lay now k ∧ done.length = (wd - k) * n

set_option maxHeartbeats 1000000 in
theorem down_any (base : Nat) (W0 w : World) (X1 X2 wd n : Nat) (ly : List Bool) (h : LaySt base W0 w X1 X2 wd n ly wd) (hb0 : base ≤ W0.heap.size) (hx1 : base ≤ X1) (hx2 : base ≤ X2) (hne : X1 ≠ X2) (hn : n ≤ 1000) (hwd : wd ≤ 64) :
    Calls Tryd.prog 55 #[.int .i64 wd, .func (Fn.func 56) #[] #[.pointer (some ⟨X2, 0, none⟩), .pointer (some ⟨X1, 0, none⟩)]] w fun e w' => e = .returned (.tuple #[]) ∧ LaySt base W0 w' X1 X2 wd n ly 0 := by
  have H0 := hide h
  clear h
  go_enter Tryd.func55, Tryd.ntmps55
  go_wp2
  go_loopw [4] (fun kk wr => ∃ k : Nat, k ≤ wd ∧ kk = .int .i64 ((k : Int) - 1) ∧ LaySt base W0 wr X1 X2 wd n ly k) (fun kk _ => (intOf kk + 1).toNat)
  case atStart => exact ⟨wd, Nat.le_refl _, rfl, unhide H0⟩
  case round =>
    obtain ⟨k, hk, rfl, hst⟩ := hrel
    clear H0
    cases k with
    | zero =>
      have HST := hide hst
      clear hst
      go_wp2
      go_end0
      exact ⟨rfl, unhide HST⟩
    | succ k =>
      rw [show (((k + 1 : Nat) : Int) - 1) = (k : Int) from by omega]
      obtain ⟨ou, no, now, done, hv2, hlen, hbig, heq, hdl⟩ := hst.ex
      have hdn : done.length ≤ 64000 := by rw [hdl]; exact Nat.mul_le_mul (show wd - (k + 1) ≤ 64 by omega) hn
      have HC := hide (clos_any base W0 wr X1 X2 ou no n k now done hv2 hb0 hx1 hx2 hne hbig hlen hn (by omega) hdn)
      have HN : Hid (∀ w' ou' no', Var2 base W0 w' X1 X2 ou' no' n (Sp.part now k) (done ++ now.map (fun v => v.testBit k)) → LaySt base W0 w' X1 X2 wd n ly k) := by
        intro w' ou' no' hv'
        refine ⟨ou', no', _, _, hv', by rw [Sp.part_len]; exact hlen, fun x hx => hbig x (Sp.part_mem hx), ?_, ?_⟩
        · rw [heq, List.append_assoc]; rfl
        · rw [List.length_append, List.length_map, hlen, hdl, show wd - k = wd - (k + 1) + 1 from by omega, Nat.succ_mul]
      clear hst hv2 hlen hbig heq hdl hdn
      go_wp2_with fail
      refine (unhide HC).mono ?_
      rintro e w1 ⟨rfl, ou', no', hv'⟩
      have HS := hide (HN.out w1 ou' no' hv')
      clear hv'
      go_wp2
      go_roundw
      case rel => exact ⟨k, by omega, rfl, unhide HS⟩
      case measure => simp [intOf]

theorem lay_start {w W1 w1 w2 : World} {p2 : Option Addr} {c2 wd n : Nat} {vs : List Nat} {v0 : Value} (hW : ResCell w.heap.size w W1) (hlen : vs.length = n) (hbig : ∀ x ∈ vs, x < 18446744073709551616) (hown1 : w1.ownsRow (w.heap.size + 1) 4 1 v0 0 []) (hb1 : Below (w.heap.size + 1) W1 w1)
    (ho2 : w2.ownsRow (w1.heap.size + 1) 34 1 (.slice p2 vs.length c2) vs.length (U64 vs)) (hb2 : Below (w1.heap.size + 1) (w1.alloc (.cells #[v0] 74)) w2) (hw : wd = Sp.widthOf vs) :
    LaySt (w.heap.size + 1) W1 (w2.alloc (.cells #[.slice p2 vs.length c2] 35)) w1.heap.size w2.heap.size wd n (Sp.layers vs) wd := by
  have s1 := hb1.size
  have s2 := hb2.size
  simp at s2
  rw [hW.2.2.2] at s1
  have q1 : (w2.alloc (.cells #[.slice p2 vs.length c2] 35)).heap[w1.heap.size]? = some (.cells #[v0] 74) := by
    rw [Below.heap_alloc _ _ _ (by omega), hb2.block _ (by omega)]
    exact heap_alloc_new _ _
  have q2 : (w2.alloc (.cells #[.slice p2 vs.length c2] 35)).heap[w2.heap.size]? = some (.cells #[.slice p2 vs.length c2] 35) := heap_alloc_new _ _
  have lt0 : ∀ g, v0.ownBlock = some g → g < w1.heap.size := fun g hg => (hown1.lt g hg).2
  have o1 : (w2.alloc (.cells #[.slice p2 vs.length c2] 35)).ownsRow (w.heap.size + 1) 4 1 v0 0 [] := by
    refine (own_below (hown1.alloc (.cells #[v0] 74)) hb2 ?_).alloc _
    intro k hk
    have := lt0 k hk
    omega
  refine ⟨v0, .slice p2 vs.length c2, vs, [], ⟨?_, ?_, ?_, ?_, o1, ?_, ?_, ?_, ?_, ?_⟩, hlen, hbig, by rw [hw]; rfl, by simp⟩
  · rw [cell_of_row _ _ _ _ _ (0, 0) q1]; rfl
  · rw [cell_of_row _ _ _ _ _ (0, 0) q2]; rfl
  · exact frozen_of_row _ _ _ _ _ q1
  · exact frozen_of_row _ _ _ _ _ q2
  · rw [← hlen]
    exact own_base (ho2.alloc _) (by omega)
  · intro k h1 h2
    have := (ho2.lt k h1).1
    have := lt0 k h2
    omega
  · intro g hg
    have := lt0 g hg
    omega
  · intro g hg
    have := ho2.lt g hg
    omega
  · exact (((hb1.alloc (by omega) _).trans (hb2.mono (by omega)))).alloc (by omega) _

set_option maxHeartbeats 1000000 in
theorem lrow_any (p : Option Addr) (B n c wd : Nat) (vs : List Nat) (w : World) (hr : Rd B w (.slice p n c) (U64 vs)) (hB : B ≤ w.heap.size) (hbig : ∀ x ∈ vs, x < 18446744073709551616) (hn : n ≤ 1000) (hwd : wd = Sp.widthOf vs) :
    Calls Tryd.prog 21 #[.slice p n c, .int .i64 wd] w fun e w' => ∃ v, e = .returned (.agg #[v]) ∧ w'.ownsRow w.heap.size 5 1 v (Sp.pack (Sp.layers vs)).length (By (Sp.pack (Sp.layers vs))) ∧ Below w.heap.size w w' := by
  obtain ⟨hl, hlc⟩ := hr.len
  rw [U64_len] at hl
  have h64 : wd ≤ 64 := by rw [hwd]; exact Sp.widthOf_le vs hbig
  have hll : (Sp.layers vs).length ≤ 64000 := by
    unfold Sp.layers
    rw [Sp.lay_len]
    exact Nat.mul_le_mul (Sp.widthOf_le vs hbig) (show vs.length ≤ 1000 by omega)
  have HR := hide hr
  have HL := hide hl
  have HBG := hide hbig
  have HWD := hide hwd
  obtain ⟨i0, hi0, hz0, hz1, hz2⟩ := info_parts Ty.bool
  have HI := hide (And.intro hi0 (And.intro hz0 (And.intro hz1 hz2)))
  clear hz2 hi0 hz0 hz1 hr hl hbig hwd
  have hmq : wd * n ≤ 64000 := Nat.mul_le_mul h64 hn
  have hmqi : (wd : Int) * (n : Int) ≤ 64000 := by rw [show (wd : Int) * (n : Int) = ((wd * n : Nat) : Int) from by simp]; exact Int.ofNat_le.2 hmq
  have hmq0 : (0 : Int) ≤ (wd : Int) * (n : Int) := by rw [show (wd : Int) * (n : Int) = ((wd * n : Nat) : Int) from by simp]; exact Int.natCast_nonneg _
  go_enter Tryd.func21, Tryd.ntmps21
  go_wp2_with (at_make; refine wpList_make_own _ rfl (.const (.int .i64 0)) (.tmp 10) 74 rfl (w.heap.size + 1) 4 i0 (.bool false) 1 Tryd.underlying74 (unhide HI).1 (unhide HI).2.1 (unhide HI).2.2.1 .i64 .i64 _ (wd * n) rfl rfl (by simp) (by rw [(unhide HI).2.2.2]; omega) (by unfold maxLen; omega) (by simp) ?_; intro w1 hown1 hg1)
  have hb1 : Below (w.heap.size + 1) (w.alloc (Obj.cells #[Value.slice none 0 0] 63)) w1 := (Below.refl _ _).grown hg1 (by simp) (by intro k hk; cases hk)
  have HW : Hid (ResCell w.heap.size w (w.alloc (Obj.cells #[Value.slice none 0 0] 63)) ∧ Rd B (w.alloc (Obj.cells #[Value.slice none 0 0] 63)) (.slice p n c) (U64 vs)) :=
    ⟨⟨by simp, by simp, (Below.refl _ _).alloc (Nat.le_refl _) _, by simp⟩, (unhide HR).alloc hB _⟩
  generalize w.alloc (Obj.cells #[Value.slice none 0 0] 63) = W1 at *
  have hHs : w.heap.size + 1 ≤ W1.heap.size := Nat.le_of_eq (unhide HW).1.2.2.2.symm
  rw [(unhide HW).1.2.2.2] at hown1
  have hs1 := hb1.size
  have HS := hide (And.intro hown1 hb1)
  clear hown1 hg1 hb1 HR
  refine (clone64_any p B n c vs _ (((unhide HW).2.below ((unhide HS).2.mono (by omega))).alloc (by omega) _) (by simp; omega) (by omega)).mono ?_
  rintro e w2 ⟨v2, rfl, o2, b2⟩
  obtain ⟨p2, c2, rfl, hc2⟩ := own_slice o2
  have HD := hide (lay_start (unhide HW).1 (unhide HL).symm (unhide HBG) (unhide HS).1 (unhide HS).2 (by simpa using o2) (by simpa using b2) (unhide HWD))
  have hs2 := b2.size
  simp at hs2
  have HDN := hide (down_any _ _ _ _ _ _ _ _ (unhide HD) hHs (by omega) (by omega) (by omega) hn h64)
  clear o2 b2 hc2
  go_wp2_with fail
  refine (unhide HDN).mono ?_
  rintro e w3 ⟨rfl, hst⟩
  obtain ⟨ou, no, now, done, hv2, hlen, hbg, heq, hdl⟩ := hst.ex
  have hdone : Sp.layers vs = done := by rw [heq]; simp [Sp.lay]
  have hc1 := hv2.c1
  have HV2 := hide hv2
  have HDE := hide hdone
  clear hst hv2 hlen hbg heq hdl hdone HDN HD
  go_wp2_with fail
  refine (rowOf_v (Rd.owned (unhide HV2).o1) (Nat.le_refl _) (by rw [← unhide HDE]; omega)).mono ?_
  rintro e w4 ⟨v4, rfl, ho4, hb4⟩
  obtain ⟨p4, c4, rfl, _⟩ := own_slice ho4
  have HX := hide (ResCell.end (unhide HW).1 (unhide HV2).bel ho4 hb4)
  have hc4 := (unhide HX).1
  have hf4 := (unhide HX).2.1
  have hset := (unhide HX).2.2.1
  clear ho4 hb4 hc1
  go_wp2
  refine bodyPost_ret (v := .agg #[.slice p4 (Sp.pack done).length c4]) (by simp [results, Tryd.results21, go_sem, hset]) rfl ?_
  refine ⟨_, rfl, ?_⟩
  rw [unhide HDE]
  exact (unhide HX).2.2.2 _
end Pr
end Go.Proofs.YtmefkcbchpjeoaaDoor
