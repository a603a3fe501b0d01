import Derived.Test.YtolkjadklbchfaaDoorG2
import Derived.Deep.QuietTactic
import Derived.BigQuiet
/- Walks: Layers. -/
open Go Go.RowKit
namespace Go.Proofs.YtolkjadklbchfaaDoor
namespace Rf
open Mem

/-- What the inner loop holds behind i values: the bits, the zeros, the ones. -/
def zer (now : List Nat) (k i : Nat) : List Nat := (now.take i).filter (fun v => !v.testBit k)
def one (now : List Nat) (k i : Nat) : List Nat := (now.take i).filter (fun v => v.testBit k)
def bts (now : List Nat) (k i : Nat) : List Bool := (now.take i).map (fun v => v.testBit k)

theorem zer_le (now : List Nat) (k i : Nat) : (zer now k i).length ≤ i := Nat.le_trans (List.length_filter_le _ _) (List.length_take_le _ _)
theorem one_le (now : List Nat) (k i : Nat) : (one now k i).length ≤ i := Nat.le_trans (List.length_filter_le _ _) (List.length_take_le _ _)
theorem bts_snoc {now : List Nat} {k i : Nat} (h : i < now.length) : bts now k (i + 1) = bts now k i ++ [now[i].testBit k] := by
  unfold bts; rw [take_snoc _ _ h, List.map_append]; rfl
theorem zer_snoc {now : List Nat} {k i : Nat} (h : i < now.length) : zer now k (i + 1) = zer now k i ++ (if now[i].testBit k then [] else [now[i]]) := by
  unfold zer; rw [take_snoc _ _ h, List.filter_append]; congr 1; cases hb : now[i].testBit k <;> simp [hb]
theorem one_snoc {now : List Nat} {k i : Nat} (h : i < now.length) : one now k (i + 1) = one now k i ++ (if now[i].testBit k then [now[i]] else []) := by
  unfold one; rw [take_snoc _ _ h, List.filter_append]; congr 1; cases hb : now[i].testBit k <;> simp [hb]

theorem and1_u64 (x : Nat) (hx : x < 18446744073709551616) (j : Nat) : (bits BinOp.and IntKind.u64 ((x : Int) / 2 ^ j) 1 == 1) = x.testBit j := by
  have e : ((x : Int) / 2 ^ j) = ((x / 2 ^ j : Nat) : Int) := by simp
  have hlt : x / 2 ^ j < 18446744073709551616 := Nat.lt_of_le_of_lt (Nat.div_le_self _ _) hx
  rw [e, show (1 : Int) = ((1 : Nat) : Int) from rfl, u64_and_nat _ _ hlt (by omega), Nat.and_one_is_mod, Nat.testBit_eq_decide_div_mod_eq]
  rw [Bool.eq_iff_iff]
  simp only [beq_iff_eq, decide_eq_true_eq]
  omega

/-- The inner loop's state. -/
structure LyIn (base : Nat) (w wr : World) (now : List Nat) (no : Value) (B' : Nat) (done : List Bool) (k i : Nat) (ou ze on : Value) : Prop where
  rd : Rd B' wr no (U64 now)
  sz : B' ≤ wr.heap.size
  o1 : wr.ownsRow base 4 1 ou (done.length + i) (Bo (done ++ bts now k i))
  o2 : wr.ownsRow base 27 1 ze (zer now k i).length (U64 (zer now k i))
  o3 : wr.ownsRow base 27 1 on (one now k i).length (U64 (one now k i))
  a1 : Ap no ou
  a2 : Ap no ze
  a3 : Ap no on
  a4 : Ap ou ze
  a5 : Ap ou on
  a6 : Ap ze on
  bel : Below base w wr

theorem LyIn.bit {base : Nat} {w wr w1 : World} {now : List Nat} {no : Value} {B' : Nat} {done : List Bool} {k i : Nat} {ou ze on ou' : Value} {o : Obj} {b : Bool} (h : LyIn base w wr now no B' done k i ou ze on) (hb0 : base ≤ w.heap.size) (hi : i < now.length) (hbv : now[i].testBit k = b)
    (hown : w1.ownsRow base 4 1 ou' (done.length + i + [Value.bool b].length) (Bo (done ++ bts now k i) ++ [Value.bool b])) (hg : (wr.alloc o).grownBy w1 ou.ownBlock) (hat : ou'.ownBlock = ou.ownBlock ∨ ou'.ownBlock = some (wr.alloc o).heap.size) :
    Rd B' w1 no (U64 now) ∧ B' ≤ w1.heap.size ∧ w1.ownsRow base 4 1 ou' (done.length + (i + 1)) (Bo (done ++ bts now k (i + 1))) ∧ w1.ownsRow base 27 1 ze (zer now k i).length (U64 (zer now k i)) ∧ w1.ownsRow base 27 1 on (one now k i).length (U64 (one now k i)) ∧
      Ap no ou' ∧ Ap no ze ∧ Ap no on ∧ Ap ou' ze ∧ Ap ou' on ∧ Ap ze on ∧ Below base w w1 := by
  have r1 := app_rd h.rd (U64_ne hi) h.sz h.a1 hg hat
  have r2 := app_own h.o2 h.a4.symm hg hat
  have r3 := app_own h.o3 h.a5.symm hg hat
  have r4 := app_below h.bel hb0 h.o1 hg
  refine ⟨r1.1, by have := h.sz; omega, ?_, r2.1, r3.1, r1.2, h.a2, h.a3, r2.2.symm, r3.2.symm, h.a6, r4.1⟩
  rw [bts_snoc hi, hbv, ← List.append_assoc, Bo_app (done ++ bts now k i)]
  exact hown

theorem LyIn.nul {base : Nat} {w w1 w2 : World} {now : List Nat} {no : Value} {B' : Nat} {done : List Bool} {k i : Nat} {ou ze on ze' : Value} {o : Obj} (hb0 : base ≤ w.heap.size) (hi : i < now.length) (hbv : now[i].testBit k = false)
    (h : Rd B' w1 no (U64 now) ∧ B' ≤ w1.heap.size ∧ w1.ownsRow base 4 1 ou (done.length + (i + 1)) (Bo (done ++ bts now k (i + 1))) ∧ w1.ownsRow base 27 1 ze (zer now k i).length (U64 (zer now k i)) ∧ w1.ownsRow base 27 1 on (one now k i).length (U64 (one now k i)) ∧
      Ap no ou ∧ Ap no ze ∧ Ap no on ∧ Ap ou ze ∧ Ap ou on ∧ Ap ze on ∧ Below base w w1)
    (hown : w2.ownsRow base 27 1 ze' ((zer now k i).length + [Value.int .u64 (now[i] : Int)].length) (U64 (zer now k i) ++ [Value.int .u64 (now[i] : Int)])) (hg : (w1.alloc o).grownBy w2 ze.ownBlock) (hat : ze'.ownBlock = ze.ownBlock ∨ ze'.ownBlock = some (w1.alloc o).heap.size) :
    LyIn base w w2 now no B' done k (i + 1) ou ze' on := by
  obtain ⟨h1, h2, h3, h4, h5, a1, a2, a3, a4, a5, a6, hbel⟩ := h
  have r1 := app_rd h1 (U64_ne hi) h2 a2 hg hat
  have r2 := app_own h3 a4 hg hat
  have r3 := app_own h5 a6.symm hg hat
  have r4 := app_below hbel hb0 h4 hg
  refine ⟨r1.1, by omega, r2.1, ?_, ?_, a1, r1.2, a3, r2.2, a5, r3.2.symm, r4.1⟩
  · rw [zer_snoc hi, hbv, if_neg (by simp), U64_app, List.length_append]
    exact hown
  · rw [one_snoc hi, hbv, if_neg (by simp), List.append_nil]
    exact r3.1

theorem LyIn.ein {base : Nat} {w w1 w2 : World} {now : List Nat} {no : Value} {B' : Nat} {done : List Bool} {k i : Nat} {ou ze on on' : Value} {o : Obj} (hb0 : base ≤ w.heap.size) (hi : i < now.length) (hbv : now[i].testBit k = true)
    (h : Rd B' w1 no (U64 now) ∧ B' ≤ w1.heap.size ∧ w1.ownsRow base 4 1 ou (done.length + (i + 1)) (Bo (done ++ bts now k (i + 1))) ∧ w1.ownsRow base 27 1 ze (zer now k i).length (U64 (zer now k i)) ∧ w1.ownsRow base 27 1 on (one now k i).length (U64 (one now k i)) ∧
      Ap no ou ∧ Ap no ze ∧ Ap no on ∧ Ap ou ze ∧ Ap ou on ∧ Ap ze on ∧ Below base w w1)
    (hown : w2.ownsRow base 27 1 on' ((one now k i).length + [Value.int .u64 (now[i] : Int)].length) (U64 (one now k i) ++ [Value.int .u64 (now[i] : Int)])) (hg : (w1.alloc o).grownBy w2 on.ownBlock) (hat : on'.ownBlock = on.ownBlock ∨ on'.ownBlock = some (w1.alloc o).heap.size) :
    LyIn base w w2 now no B' done k (i + 1) ou ze on' := by
  obtain ⟨h1, h2, h3, h4, h5, a1, a2, a3, a4, a5, a6, hbel⟩ := h
  have r1 := app_rd h1 (U64_ne hi) h2 a3 hg hat
  have r2 := app_own h3 a5 hg hat
  have r3 := app_own h4 a6 hg hat
  have r4 := app_below hbel hb0 h5 hg
  refine ⟨r1.1, by omega, r2.1, ?_, ?_, a1, a2, r1.2, a4, r2.2, r3.2, r4.1⟩
  · rw [zer_snoc hi, hbv, if_pos rfl, List.append_nil]
    exact r3.1
  · rw [one_snoc hi, hbv, if_pos rfl, U64_app, List.length_append]
    exact hown

/-- The outer loop's state. -/
structure LyOut (base : Nat) (w wr : World) (wd n : Nat) (ly : List Bool) (now : List Nat) (done : List Bool) (k : Nat) (ou no : Value) : Prop where
  rd : ∃ B', Rd B' wr no (U64 now) ∧ B' ≤ wr.heap.size
  len : now.length = n
  big : ∀ x ∈ now, x < 18446744073709551616
  own : wr.ownsRow base 4 1 ou done.length (Bo done)
  ap : Ap no ou
  eq : ly = done ++ Sp.lay now k
  dl : done.length = (wd - k) * n
  bel : Below base w wr

theorem LyIn.out {base : Nat} {w wr w1 : World} {wd : Nat} {ly : List Bool} {now : List Nat} {no : Value} {B' : Nat} {done : List Bool} {k n : Nat} {ou ze on v1 : Value} (h : LyIn base w wr now no B' done k n ou ze on) (hb0 : base ≤ w.heap.size) (hlen : now.length = n) (hk : k + 1 ≤ wd)
    (hbig : ∀ x ∈ now, x < 18446744073709551616) (heq : ly = done ++ Sp.lay now (k + 1)) (hdl : done.length = (wd - (k + 1)) * n)
    (hown : w1.ownsRow base 27 1 v1 ((zer now k n).length + (U64 (one now k n)).length) (U64 (zer now k n) ++ U64 (one now k n))) (hg : wr.grownBy w1 ze.ownBlock) (hat : v1.ownBlock = ze.ownBlock ∨ v1.ownBlock = some wr.heap.size) :
    LyOut base w w1 wd n ly (Sp.part now k) (done ++ bts now k n) k ou v1 := by
  have ez : zer now k n = now.filter (fun v => !v.testBit k) := by unfold zer; rw [List.take_of_length_le (by omega)]
  have eo : one now k n = now.filter (fun v => v.testBit k) := by unfold one; rw [List.take_of_length_le (by omega)]
  have eb : bts now k n = now.map (fun v => v.testBit k) := by unfold bts; rw [List.take_of_length_le (by omega)]
  have r2 := apps_own h.o1 h.a4 hg hat
  have r4 := apps_below h.bel hb0 h.o2 hg
  have lb : (bts now k n).length = n := by rw [eb, List.length_map, hlen]
  refine ⟨⟨_, ?_, Nat.le_refl _⟩, by rw [Sp.part_len, hlen], fun x hx => hbig x (Sp.part_mem hx), ?_, r2.2.symm, ?_, ?_, r4.1⟩
  · have := Rd.owned hown
    rw [← U64_app, ez, eo] at this
    exact this
  · rw [List.length_append, lb]
    exact r2.1
  · rw [heq, eb, List.append_assoc]
    rfl
  · rw [List.length_append, lb, hdl, show wd - k = wd - (k + 1) + 1 from by omega, Nat.succ_mul]

end Rf
end Go.Proofs.YtolkjadklbchfaaDoor
/- Walks: Brackets. -/
open Go Go.RowKit
namespace Go.Proofs.YtolkjadklbchfaaDoor
namespace Rf
open Mem

/-- A slice cut at its end: the row owns one less. -/
theorem own_pop {w : World} {base : Nat} {e : TypeId} {g n cap : Nat} {xs : List Value} {x : Value} (h : w.ownsRow base e 1 (.slice (some ⟨g, 0, none⟩) (n + 1) cap) (n + 1) (xs ++ [x])) : w.ownsRow base e 1 (.slice (some ⟨g, 0, none⟩) n cap) n xs := by
  have hl := h.1
  simp at hl
  rcases h.2 with ⟨h', _⟩ | ⟨g', cap', cur, h', hb, hg, hnc, hcm, hcs, ht⟩
  · simp at h'
  · simp only [Value.slice.injEq, Option.some.injEq, Addr.mk.injEq, and_true, true_and] at h'
    obtain ⟨rfl, rfl⟩ := h'
    refine ⟨by simp [hl], .inr ⟨g, cap, cur, rfl, hb, hg, by omega, hcm, hcs, ?_⟩⟩
    have := congrArg (List.take n) ht
    rw [List.take_take, List.take_append_of_le_length (by omega), List.take_of_length_le (l := xs) (by omega)] at this
    rw [← this]
    congr 1
    omega

/-- The loop's state: the stack in memory is the stack turned round. -/
structure BrSt (base : Nat) (w wr : World) (vs : List Nat) (B : Nat) (va : Value) (done : List Bool) (st : List Nat) (i : Nat) (ou sk : Value) : Prop where
  rd : Rd B wr va (U64 vs)
  o1 : wr.ownsRow base 4 1 ou done.length (Bo done)
  o2 : wr.ownsRow base 27 1 sk st.length (U64 st.reverse)
  ap : Ap ou sk
  eq : Sp.brackets vs = done ++ Sp.brk st (vs.drop i)
  sz : done.length + st.length = 2 * i
  bel : Below base w wr

theorem brk_cons {st : List Nat} {v : Nat} {l : List Nat} : Sp.brk st (v :: l) = List.replicate (st.length - (Sp.pops v st).length) false ++ true :: Sp.brk (v :: Sp.pops v st) l := rfl
theorem brk_pop {t v : Nat} {s l : List Nat} (h : v < t) : Sp.brk (t :: s) (v :: l) = false :: Sp.brk s (v :: l) := by
  have := Sp.pops_len v s
  simp only [brk_cons, Sp.pops, h, if_true, List.length_cons]
  rw [show s.length + 1 - (Sp.pops v s).length = (s.length - (Sp.pops v s).length) + 1 from by omega, List.replicate_succ]
  rfl
theorem brk_push {v : Nat} {st l : List Nat} (h : ∀ t s, st = t :: s → ¬ v < t) : Sp.brk st (v :: l) = true :: Sp.brk (v :: st) l := by
  have e : Sp.pops v st = st := by
    cases st with
    | nil => rfl
    | cons t s => simp [Sp.pops, h t s rfl]
  simp [brk_cons, e]
theorem brk_end {st : List Nat} : Sp.brk st [] = List.replicate st.length false := rfl

def lenV : Value → Nat | .slice _ n _ => n | _ => 0

theorem BrSt.drewN {base : Nat} {w wr : World} {vs : List Nat} {B : Nat} {va : Value} {done : List Bool} {st : List Nat} {i : Nat} {ou sk : Value} (h : BrSt base w wr vs B va done st i ou sk) (q : Nat) : BrSt base w (wr.drewN q) vs B va done st i ou sk := by
  refine ⟨?_, h.o1, h.o2, h.ap, h.eq, h.sz, ⟨h.bel.os, h.bel.tape, h.bel.output, h.bel.size, h.bel.block⟩⟩
  obtain ⟨p, c, he, hlc, h'⟩ := h.rd
  exact ⟨p, c, he, hlc, h'⟩

theorem BrSt.pop {base : Nat} {w wr w1 : World} {vs : List Nat} {B : Nat} {va : Value} {done : List Bool} {t : Nat} {s : List Nat} {i g cap : Nat} {ou ou' : Value} {o : Obj} (h : BrSt base w wr vs B va done (t :: s) i ou (.slice (some ⟨g, 0, none⟩) (s.length + 1) cap)) (hb0 : base ≤ w.heap.size) (hBb : B ≤ base) (hi : i < vs.length) (hv : vs[i] < t)
    (hown : w1.ownsRow base 4 1 ou' (done.length + [Value.bool false].length) (Bo done ++ [Value.bool false])) (hg : (wr.alloc o).grownBy w1 ou.ownBlock) (hat : ou'.ownBlock = ou.ownBlock ∨ ou'.ownBlock = some (wr.alloc o).heap.size) :
    BrSt base w w1 vs B va (done ++ [false]) s i ou' (.slice (some ⟨g, 0, none⟩) s.length cap) := by
  have r2 := app_own h.o2 h.ap.symm hg hat
  have r4 := app_below h.bel hb0 h.o1 hg
  have hsz := h.sz
  refine ⟨?_, ?_, ?_, ?_, ?_, ?_, r4.1⟩
  · refine (h.rd.alloc (by have := h.bel.size; omega) o).grown hg (by have := h.bel.size; simp; omega) ?_
    intro k hk
    have := (h.o1.lt k hk).1
    omega
  · rw [Bo_app, List.length_append]
    exact hown
  · have hh := r2.1
    rw [List.reverse_cons, U64_app] at hh
    exact own_pop hh
  · exact fun k hk hv' => r2.2 k hv' hk
  · rw [h.eq, List.drop_eq_getElem_cons hi, brk_pop hv, List.append_assoc]
    rfl
  · simp at hsz ⊢
    omega

theorem BrSt.push {base : Nat} {w wr w1 w2 : World} {vs : List Nat} {B : Nat} {va : Value} {done : List Bool} {st : List Nat} {i : Nat} {ou sk sk' ou' : Value} {o o' : Obj} (h : BrSt base w wr vs B va done st i ou sk) (hb0 : base ≤ w.heap.size) (hBb : B ≤ base) (hi : i < vs.length) (hv : ∀ t s, st = t :: s → ¬ vs[i] < t)
    (hown1 : w1.ownsRow base 27 1 sk' (st.length + [Value.int .u64 (vs[i] : Int)].length) (U64 st.reverse ++ [Value.int .u64 (vs[i] : Int)])) (hg1 : (wr.alloc o).grownBy w1 sk.ownBlock) (hat1 : sk'.ownBlock = sk.ownBlock ∨ sk'.ownBlock = some (wr.alloc o).heap.size)
    (hown : w2.ownsRow base 4 1 ou' (done.length + [Value.bool true].length) (Bo done ++ [Value.bool true])) (hg : (w1.alloc o').grownBy w2 ou.ownBlock) (hat : ou'.ownBlock = ou.ownBlock ∨ ou'.ownBlock = some (w1.alloc o').heap.size) :
    BrSt base w w2 vs B va (done ++ [true]) (vs[i] :: st) (i + 1) ou' sk' := by
  have q1 := app_own h.o1 h.ap hg1 hat1
  have q4 := app_below h.bel hb0 h.o2 hg1
  have r2 := app_own hown1 q1.2.symm hg hat
  have r4 := app_below q4.1 hb0 q1.1 hg
  have hsz := h.sz
  refine ⟨?_, ?_, ?_, r2.2.symm, ?_, ?_, r4.1⟩
  · have rd1 : Rd B w1 va (U64 vs) := (h.rd.alloc (by have := h.bel.size; omega) o).grown hg1 (by have := h.bel.size; simp; omega) (by
      intro k hk
      have := (h.o2.lt k hk).1
      omega)
    refine (rd1.alloc (by have := q4.1.size; omega) o').grown hg (by have := q4.1.size; simp; omega) ?_
    intro k hk
    have := (q1.1.lt k hk).1
    omega
  · rw [Bo_app, List.length_append]
    exact hown
  · rw [List.reverse_cons, U64_app]
    exact r2.1
  · rw [h.eq, List.drop_eq_getElem_cons hi, brk_push hv, List.append_assoc]
    rfl
  · simp
    omega

end Rf
end Go.Proofs.YtolkjadklbchfaaDoor
