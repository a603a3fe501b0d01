/- Walks: Brackets. -/
import Derived.Test.YtmefkcbchpjeoaaDoorRefC
import Derived.Deep.QuietTactic
import Derived.BigQuiet
open Go Go.RowKit
namespace Go.Proofs.YtmefkcbchpjeoaaDoor
namespace Rf
open Mem

/-- A slice cut at its end: the row owns one less. -/
theorem own_pop {w : World} {base : Nat} {e : TypeId} {g n cap : Nat} {xs : List Value} {x : Value} (h : w.ownsRow base e 1 (.slice (some ⟨g, 0, none⟩) (n + 1) cap) (n + 1) (xs ++ [x])) : w.ownsRow base e 1 (.slice (some ⟨g, 0, none⟩) n cap) n xs := by
  have hl := h.1
  simp at hl
  rcases h.2 with ⟨h', _⟩ | ⟨g', cap', cur, h', hb, hg, hnc, hcm, hcs, ht⟩
  · simp at h'
  · simp only [Value.slice.injEq, Option.some.injEq, Addr.mk.injEq, and_true, true_and] at h'
    obtain ⟨rfl, rfl⟩ := h'
    refine ⟨by simp [hl], .inr ⟨g, cap, cur, rfl, hb, hg, by omega, hcm, hcs, ?_⟩⟩
    have := congrArg (List.take n) ht
    rw [List.take_take, List.take_append_of_le_length (by omega), List.take_of_length_le (l := xs) (by omega)] at this
    rw [← this]
    congr 1
    omega

/-- The loop's state: the stack in memory is the stack turned round. -/
structure BrSt (base : Nat) (w wr : World) (vs : List Nat) (B : Nat) (va : Value) (done : List Bool) (st : List Nat) (i : Nat) (ou sk : Value) : Prop where
  rd : Rd B wr va (U64 vs)
  o1 : wr.ownsRow base 4 1 ou done.length (Bo done)
  o2 : wr.ownsRow base 34 1 sk st.length (U64 st.reverse)
  ap : Ap ou sk
  eq : Sp.brackets vs = done ++ Sp.brk st (vs.drop i)
  sz : done.length + st.length = 2 * i
  bel : Below base w wr

theorem brk_cons {st : List Nat} {v : Nat} {l : List Nat} : Sp.brk st (v :: l) = List.replicate (st.length - (Sp.pops v st).length) false ++ true :: Sp.brk (v :: Sp.pops v st) l := rfl
theorem brk_pop {t v : Nat} {s l : List Nat} (h : v < t) : Sp.brk (t :: s) (v :: l) = false :: Sp.brk s (v :: l) := by
  have := Sp.pops_len v s
  simp only [brk_cons, Sp.pops, h, if_true, List.length_cons]
  rw [show s.length + 1 - (Sp.pops v s).length = (s.length - (Sp.pops v s).length) + 1 from by omega, List.replicate_succ]
  rfl
theorem brk_push {v : Nat} {st l : List Nat} (h : ∀ t s, st = t :: s → ¬ v < t) : Sp.brk st (v :: l) = true :: Sp.brk (v :: st) l := by
  have e : Sp.pops v st = st := by
    cases st with
    | nil => rfl
    | cons t s => simp [Sp.pops, h t s rfl]
  simp [brk_cons, e]
theorem brk_end {st : List Nat} : Sp.brk st [] = List.replicate st.length false := rfl

def lenV : Value → Nat | .slice _ n _ => n | _ => 0

theorem BrSt.drewN {base : Nat} {w wr : World} {vs : List Nat} {B : Nat} {va : Value} {done : List Bool} {st : List Nat} {i : Nat} {ou sk : Value} (h : BrSt base w wr vs B va done st i ou sk) (q : Nat) : BrSt base w (wr.drewN q) vs B va done st i ou sk := by
  refine ⟨?_, h.o1, h.o2, h.ap, h.eq, h.sz, ⟨h.bel.os, h.bel.tape, h.bel.output, h.bel.size, h.bel.block⟩⟩
  obtain ⟨p, c, he, hlc, h'⟩ := h.rd
  exact ⟨p, c, he, hlc, h'⟩

theorem BrSt.pop {base : Nat} {w wr w1 : World} {vs : List Nat} {B : Nat} {va : Value} {done : List Bool} {t : Nat} {s : List Nat} {i g cap : Nat} {ou ou' : Value} {o : Obj} (h : BrSt base w wr vs B va done (t :: s) i ou (.slice (some ⟨g, 0, none⟩) (s.length + 1) cap)) (hb0 : base ≤ w.heap.size) (hBb : B ≤ base) (hi : i < vs.length) (hv : vs[i] < t)
    (hown : w1.ownsRow base 4 1 ou' (done.length + [Value.bool false].length) (Bo done ++ [Value.bool false])) (hg : (wr.alloc o).grownBy w1 ou.ownBlock) (hat : ou'.ownBlock = ou.ownBlock ∨ ou'.ownBlock = some (wr.alloc o).heap.size) :
    BrSt base w w1 vs B va (done ++ [false]) s i ou' (.slice (some ⟨g, 0, none⟩) s.length cap) := by
  have r2 := app_own h.o2 h.ap.symm hg hat
  have r4 := app_below h.bel hb0 h.o1 hg
  have hsz := h.sz
  refine ⟨?_, ?_, ?_, ?_, ?_, ?_, r4.1⟩
  · refine (h.rd.alloc (by have := h.bel.size; omega) o).grown hg (by have := h.bel.size; simp; omega) ?_
    intro k hk
    have := (h.o1.lt k hk).1
    omega
  · rw [Bo_app, List.length_append]
    exact hown
  · have hh := r2.1
    rw [List.reverse_cons, U64_app] at hh
    exact own_pop hh
  · exact fun k hk hv' => r2.2 k hv' hk
  · rw [h.eq, List.drop_eq_getElem_cons hi, brk_pop hv, List.append_assoc]
    rfl
  · simp at hsz ⊢
    omega

theorem BrSt.push {base : Nat} {w wr w1 w2 : World} {vs : List Nat} {B : Nat} {va : Value} {done : List Bool} {st : List Nat} {i : Nat} {ou sk sk' ou' : Value} {o o' : Obj} (h : BrSt base w wr vs B va done st i ou sk) (hb0 : base ≤ w.heap.size) (hBb : B ≤ base) (hi : i < vs.length) (hv : ∀ t s, st = t :: s → ¬ vs[i] < t)
    (hown1 : w1.ownsRow base 34 1 sk' (st.length + [Value.int .u64 (vs[i] : Int)].length) (U64 st.reverse ++ [Value.int .u64 (vs[i] : Int)])) (hg1 : (wr.alloc o).grownBy w1 sk.ownBlock) (hat1 : sk'.ownBlock = sk.ownBlock ∨ sk'.ownBlock = some (wr.alloc o).heap.size)
    (hown : w2.ownsRow base 4 1 ou' (done.length + [Value.bool true].length) (Bo done ++ [Value.bool true])) (hg : (w1.alloc o').grownBy w2 ou.ownBlock) (hat : ou'.ownBlock = ou.ownBlock ∨ ou'.ownBlock = some (w1.alloc o').heap.size) :
    BrSt base w w2 vs B va (done ++ [true]) (vs[i] :: st) (i + 1) ou' sk' := by
  have q1 := app_own h.o1 h.ap hg1 hat1
  have q4 := app_below h.bel hb0 h.o2 hg1
  have r2 := app_own hown1 q1.2.symm hg hat
  have r4 := app_below q4.1 hb0 q1.1 hg
  have hsz := h.sz
  refine ⟨?_, ?_, ?_, r2.2.symm, ?_, ?_, r4.1⟩
  · have rd1 : Rd B w1 va (U64 vs) := (h.rd.alloc (by have := h.bel.size; omega) o).grown hg1 (by have := h.bel.size; simp; omega) (by
      intro k hk
      have := (h.o2.lt k hk).1
      omega)
    refine (rd1.alloc (by have := q4.1.size; omega) o').grown hg (by have := q4.1.size; simp; omega) ?_
    intro k hk
    have := (q1.1.lt k hk).1
    omega
  · rw [Bo_app, List.length_append]
    exact hown
  · rw [List.reverse_cons, U64_app]
    exact r2.1
  · rw [h.eq, List.drop_eq_getElem_cons hi, brk_push hv, List.append_assoc]
    rfl
  · simp
    omega

set_option maxHeartbeats 1000000 in
theorem brackets_any (p : Option Addr) (B n c : Nat) (vs : List Nat) (w : World) (hr : Rd B w (.slice p n c) (U64 vs)) (hB : B ≤ w.heap.size) (hn : n ≤ 1000000000) :
    Calls Tryd.prog 30 #[.slice p n c] w fun e w' => ∃ v, e = .returned v ∧ w'.ownsRow w.heap.size 4 1 v (Sp.brackets vs).length (Bo (Sp.brackets vs)) ∧ Below w.heap.size w w' := by
  obtain ⟨hl, hlc⟩ := hr.len
  rw [U64_len] at hl
  subst hl
  have H0 : Hid (BrSt w.heap.size w w vs B (.slice p vs.length c) [] [] 0 (.slice none 0 0) (.slice none 0 0)) :=
    ⟨hr, World.ownsRow_nil _ _ _ _, World.ownsRow_nil _ _ _ _, Ap.nil _, rfl, rfl, Below.refl _ _⟩
  clear hr
  go_enter Tryd.func30, Tryd.ntmps30
  go_wp2
  go_loopw [3, 4, 5] (fun ou sk ii wr => ∃ (i : Nat) (done : List Bool) (st : List Nat), i ≤ vs.length ∧ ii = .int .i64 i ∧ BrSt w.heap.size w wr vs B (.slice p vs.length c) done st i ou sk) (fun _ _ ii _ => vs.length - (intOf ii).toNat)
  case atStart => exact ⟨0, [], [], Nat.zero_le _, rfl, unhide H0⟩
  case round =>
    obtain ⟨i, done, st, hi, rfl, hst⟩ := hrel
    by_cases hlt : i < vs.length
    · have HST := hide hst
      clear hst
      go_wp2
      go_loopw [3, 4] (fun ou sk wr => ∃ (done : List Bool) (st : List Nat), BrSt w.heap.size w wr vs B (.slice p vs.length c) done st i ou sk) (fun _ sk _ => lenV sk)
      case atStart => exact ⟨done, st, unhide HST⟩
      case round =>
        clear HST H0
        obtain ⟨done, st, hst⟩ := hrel
        have hv := U64_at vs i hlt
        obtain ⟨b, o, rfl, hb, hc⟩ := hst.rd.at i _ hv
        have hsz := hst.sz
        have hsize := hst.bel.size
        have hsb : st.length ≤ 10000000000000 := by omega
        have hsd : done.length ≤ 10000000000000 := by omega
        clear hv
        by_cases hpop : ∃ t s, st = t :: s ∧ vs[i] < t
        · obtain ⟨t, s, rfl, hvt⟩ := hpop
          obtain ⟨g, cap, rfl, hcap, _, _, hcells, _⟩ := own_form hst.o2 (by simp)
          have hct := hcells s.length (.int .u64 (t : Int)) (by rw [List.reverse_cons, U64_app, List.getElem?_append_right (by rw [U64_len]; simp)]; simp [U64])
          rw [List.length_cons] at hst hcap hsz ⊢
          have HST := hide hst
          have HV := hide hvt
          have hvt' : ((vs[i] : Nat) : Int) < (t : Int) := by omega
          have hd : decide (((vs[i] : Nat) : Int) < (t : Int)) = true := by simpa using hvt'
          generalize hxx : vs[i] = x at *
          have HXX := hide hxx
          clear hst hcells hvt hxx
          go_wp2_with fail
          go_quiet (fail)
          go_wp2_with (at_builtin; refine wpList_app _ rfl (.tmp 33) (.tmp 34) 74 rfl w.heap.size 4 (.bool false) 1 Tryd.underlying74 Ty.bool rfl u3 _ _ rfl (((unhide HST).drewN nq).o1.alloc _) _ _ rfl ⟨_, Rd.one (wr.drewN nq) (.bool false) 4⟩ (one_bool _) (by simp; unfold maxLen; omega) (by simp; omega) (by simp; omega) ?_; intro v1 w1 hown1 hg1 hb1; have R1 := BrSt.pop ((unhide HST).drewN nq) (Nat.le_refl _) hB hlt (by rw [unhide HXX]; exact unhide HV) hown1 hg1 hb1; have HR1 := hide R1; clear R1 hown1 hg1 hb1 hc)
          go_roundw
          case rel => exact ⟨_, _, unhide HR1⟩
          case measure => simp [lenV]
        · have HNP : Hid (∀ t s, st = t :: s → ¬ vs[i] < t) := fun t s h1 h2 => hpop ⟨t, s, h1, h2⟩
          clear hpop
          cases st with
          | nil =>
            have hsk : u4 = .slice none 0 0 ∨ ∃ a c', u4 = .slice (some a) 0 c' := by
              rcases hst.o2.2 with ⟨h, _⟩ | ⟨g, cap, cur, h, _⟩
              · exact Or.inl h
              · exact Or.inr ⟨_, _, h⟩
            rcases hsk with rfl | ⟨a4, c4, rfl⟩
            all_goals
              have HST := hide hst
              generalize hxx : vs[i] = x at *
              have HXX := hide hxx
              clear hst hxx
              go_wp2_with fail
              go_quiet (fail)
              go_wp2_with (first
                | (at_builtin; refine wpList_app _ rfl (.tmp 36) (.tmp 41) 35 rfl w.heap.size 34 (.int .u64 0) 8 Tryd.underlying35 Ty.u64 rfl _ _ _ rfl (((unhide HST).drewN nq).o2.alloc _) _ _ rfl ⟨_, Rd.one (wr.drewN nq) (.int .u64 (x : Int)) 34⟩ (one_int _ _) (room1 hsb) (room8b hsb) (by simp; omega) ?_; intro v1 w1 hown1 hg1 hb1; have Q1 := app_own ((unhide HST).drewN nq).o1 ((unhide HST).drewN nq).ap hg1 hb1; have hs1 := (app_below ((unhide HST).drewN nq).bel (Nat.le_refl _) ((unhide HST).drewN nq).o2 hg1).2; have HQ1 := hide Q1; have HH1 := hide (And.intro hown1 (And.intro hg1 hb1)); clear Q1 hown1 hg1 hb1)
                | (at_builtin; refine wpList_app _ rfl (.tmp 43) (.tmp 44) 74 rfl w.heap.size 4 (.bool false) 1 Tryd.underlying74 Ty.bool rfl _ _ _ rfl ((unhide HQ1).1.alloc _) _ _ rfl ⟨_, Rd.one w1 (.bool true) 4⟩ (one_bool _) (room1 hsd) (room1b hsd) (by simp at hs1; simp; omega) ?_; intro v2 w2 hown2 hg2 hb2; have R1 := BrSt.push ((unhide HST).drewN nq) (Nat.le_refl _) hB hlt (fun t s h => by rw [unhide HXX]; exact HNP.out t s h) (by rw [unhide HXX]; exact (unhide HH1).1) (unhide HH1).2.1 (unhide HH1).2.2 hown2 hg2 hb2; have HR1 := hide R1; clear R1 hown2 hg2 hb2))
              go_roundw
              case rel => exact ⟨i + 1, _, _, by omega, by go_num, unhide HR1⟩
              case measure => simp [intOf]; omega
          | cons t s =>
            obtain ⟨g, cap, rfl, hcap, _, _, hcells, _⟩ := own_form hst.o2 (by simp)
            have hct := hcells s.length (.int .u64 (t : Int)) (by rw [List.reverse_cons, U64_app, List.getElem?_append_right (by rw [U64_len]; simp)]; simp [U64])
            have hnv := HNP.out t s rfl
            have hnv' : ¬ ((vs[i] : Nat) : Int) < (t : Int) := by omega
            have hd : decide (((vs[i] : Nat) : Int) < (t : Int)) = false := by simpa using hnv
            rw [List.length_cons] at hst hcap hsz ⊢
            have HST := hide hst
            generalize hxx : vs[i] = x at *
            have HXX := hide hxx
            clear hst hxx hcells hnv
            go_wp2_with fail
            go_quiet (fail)
            go_wp2_with (first
              | (at_builtin; refine wpList_app _ rfl (.tmp 36) (.tmp 41) 35 rfl w.heap.size 34 (.int .u64 0) 8 Tryd.underlying35 Ty.u64 rfl _ _ _ rfl (((unhide HST).drewN nq).o2.alloc _) _ _ rfl ⟨_, Rd.one (wr.drewN nq) (.int .u64 (x : Int)) 34⟩ (one_int _ _) (room1 hsb) (room8b hsb) (by simp; omega) ?_; intro v1 w1 hown1 hg1 hb1; have Q1 := app_own ((unhide HST).drewN nq).o1 ((unhide HST).drewN nq).ap hg1 hb1; have hs1 := (app_below ((unhide HST).drewN nq).bel (Nat.le_refl _) ((unhide HST).drewN nq).o2 hg1).2; have HQ1 := hide Q1; have HH1 := hide (And.intro hown1 (And.intro hg1 hb1)); clear Q1 hown1 hg1 hb1)
              | (at_builtin; refine wpList_app _ rfl (.tmp 43) (.tmp 44) 74 rfl w.heap.size 4 (.bool false) 1 Tryd.underlying74 Ty.bool rfl _ _ _ rfl ((unhide HQ1).1.alloc _) _ _ rfl ⟨_, Rd.one w1 (.bool true) 4⟩ (one_bool _) (room1 hsd) (room1b hsd) (by simp at hs1; simp; omega) ?_; intro v2 w2 hown2 hg2 hb2; have R1 := BrSt.push ((unhide HST).drewN nq) (Nat.le_refl _) hB hlt (fun t s h => by rw [unhide HXX]; exact HNP.out t s h) (by rw [unhide HXX]; exact (unhide HH1).1) (unhide HH1).2.1 (unhide HH1).2.2 hown2 hg2 hb2; have HR1 := hide R1; clear R1 hown2 hg2 hb2))
            go_roundw
            case rel => exact ⟨i + 1, _, _, by omega, by go_num, unhide HR1⟩
            case measure => simp [intOf]; omega
    · have he : i = vs.length := by omega
      subst he
      have hq := hst.eq
      rw [List.drop_length, brk_end] at hq
      have hsz := hst.sz
      have hown := hst.o1
      have hbel := hst.bel
      have HQ := hide hq
      have HO := hide (And.intro hown hbel)
      clear hst hq hown hbel
      go_wp2
      go_loopw [3] (fun ou wr => ∃ j : Nat, j ≤ st.length ∧ wr.ownsRow w.heap.size 4 1 ou (done.length + j) (Bo (done ++ List.replicate j false)) ∧ Below w.heap.size w wr) (fun ou _ => 2 * vs.length - lenV ou)
      case atStart => exact ⟨0, Nat.zero_le _, by simpa using (unhide HO).1, (unhide HO).2⟩
      case round =>
        obtain ⟨j, hj, hown, hbel⟩ := hrel
        clear HO
        have hsize := hbel.size
        obtain ⟨po, co, rfl, hco⟩ := own_slice hown
        have HW := hide (And.intro hown hbel)
        clear hown hbel
        by_cases hjl : j < st.length
        · go_wp2_with (at_builtin; refine wpList_app _ rfl (.tmp 52) (.tmp 53) 74 rfl w.heap.size 4 (.bool false) 1 Tryd.underlying74 Ty.bool rfl _ _ _ rfl ((unhide HW).1.alloc _) _ _ rfl ⟨_, Rd.one wr (.bool false) 4⟩ (one_bool _) (by simp; unfold maxLen; omega) (by simp; omega) (by simp; omega) ?_; intro v1 w1 hown1 hg1 hb1; have R1 := (app_below (unhide HW).2 (Nat.le_refl _) (unhide HW).1 hg1).1; have HR1 := hide (And.intro hown1 R1); clear R1 hown1 hg1 hb1)
          obtain ⟨p2, c2, rfl, hc2⟩ := own_slice (unhide HR1).1
          go_roundw
          case rel => exact ⟨j + 1, by omega, by have := (unhide HR1).1; rw [List.replicate_succ', ← List.append_assoc, Bo_app]; exact this, (unhide HR1).2⟩
          case measure => simp [lenV]; omega
        · have he : j = st.length := by omega
          subst he
          have hdl : done.length + st.length = (Sp.brackets vs).length := by rw [unhide HQ]; simp
          have HD := hide hdl
          clear hdl
          go_wp2
          go_ret
          exact ⟨_, rfl, by rw [← unhide HD, unhide HQ]; exact (unhide HW).1, (unhide HW).2⟩
end Rf
end Go.Proofs.YtmefkcbchpjeoaaDoor
