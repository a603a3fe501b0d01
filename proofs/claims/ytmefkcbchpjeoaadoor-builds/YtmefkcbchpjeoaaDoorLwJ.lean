/- Walks of the law: step. -/
import Derived.Test.YtmefkcbchpjeoaaDoorLwH
open Go Go.RowKit
namespace Go.Proofs.YtmefkcbchpjeoaaDoor
namespace Lw
open Mem Rf Pr

/-- A step of the script, as data. -/
structure OpD where
  K : Int
  A : Int
  B : Int
  C : Int
  D : Int
  u : Int
  x : Int
  pv : Option Addr
  n : Nat
  cv : Nat
  pm : Option Addr
  m : Nat
  cm : Nat
  S : ByteArray
  vs : List Nat
  ms : List Int

def OpD.V (d : OpD) : Value := .slice d.pv d.n d.cv
def OpD.M (d : OpD) : Value := .slice d.pm d.m d.cm

/-- What a step's lists read as, in blocks below base. -/
structure OpOk (base : Nat) (w : World) (d : OpD) : Prop where
  rv : Rd base w (.slice d.pv d.n d.cv) (U64 d.vs)
  big : ∀ y ∈ d.vs, y < 18446744073709551616
  nle : d.n ≤ 17592186044000
  rm : Rd base w (.slice d.pm d.m d.cm) (I64 d.ms)
  mle : d.m ≤ 17592186044000
  ain : -9223372036854775808 ≤ d.A ∧ d.A ≤ 9223372036854775807

theorem OpOk.below {base : Nat} {w w' : World} {d : OpD} (h : OpOk base w d) (hb : Below base w w') : OpOk base w' d :=
  ⟨h.rv.below hb, h.big, h.nle, h.rm.below hb, h.mle, h.ain⟩

/-- What lies below base is none of the law's. -/
theorem rdm_of {base U : Nat} {W0 w : World} {xv yv bv : Value} {is : List It} {bs : List Bk} {y : Value} {ys : List Value} (h : WSt base U W0 w xv yv bv is bs) (hr : Rd base w y ys) : RdM (Mut U xv yv bv) w y ys := by
  have hul := h.ult
  have hu := h.u0
  refine ⟨hr.mono (by omega), fun hn k hk hm => ?_⟩
  have := hr.lt hn k hk
  rcases hm with q | q | q | q
  · omega
  · have := (h.ox.lt k q).1; omega
  · have := (h.oy.lt k q).1; omega
  · have := (h.ob.lt k q).1; omega

theorem alloc_below (w : World) (o : Obj) : Below w.heap.size w (w.alloc o) := (Below.refl _ _).alloc (Nat.le_refl _) _

set_option maxHeartbeats 400000 in
theorem pick_fix (c : Int) (n : Nat) (hn : 0 < n) (hn2 : n ≤ 1000) (hc : -9223372036854775808 ≤ c ∧ c ≤ 9223372036854775807) :
    ∃ k : Nat, k < n ∧ ∀ w : World, Calls Tryd.prog 13 #[.int .i64 c, .int .i64 n] w fun e w' => e = .returned (.int .i64 k) ∧ w' = w := by
  by_cases h0 : c < 0
  · obtain ⟨k, hk, he⟩ := tmod_nonneg (a := -(c + 1)) (n := n) (by omega) hn
    rw [Int.neg_tmod] at he
    refine ⟨k, hk, fun w => ?_⟩
    have HE := hide he
    clear he
    go_enter Tryd.func13, Tryd.ntmps13
    go_wp2
    go_ret
    exact ⟨ret_int (unhide HE), rfl⟩
  · obtain ⟨k, hk, he⟩ := tmod_nonneg (a := c) (n := n) (by omega) hn
    rw [Int.tmod_eq_emod_of_nonneg (by omega)] at he
    refine ⟨k, hk, fun w => ?_⟩
    have HE := hide he
    clear he
    go_enter Tryd.func13, Tryd.ntmps13
    go_wp2
    go_ret
    exact ⟨ret_int (unhide HE), rfl⟩

theorem drewN_below (w : World) (q : Nat) : Below w.heap.size w (w.drewN q) := ⟨rfl, rfl, rfl, Nat.le_refl _, fun _ _ => rfl⟩

set_option maxHeartbeats 4000000 in
theorem step_any (base U : Nat) (W0 w : World) (xv yv bv : Value) (is : List It) (bs : List Bk) (h : WSt base U W0 w xv yv bv is bs) (d : OpD) (hd : OpOk base w d) (hK : d.K ≤ 2) (hbs : bs.length ≤ 1300000000000) (hT : Tab W0) (hb0 : 0 < base) :
    Calls Tryd.prog 6 #[.pointer (some ⟨U, 0, none⟩), .agg #[.int .i64 d.K, .int .i64 d.A, .int .i64 d.B, .int .i64 d.C, .int .i64 d.D, .int .u64 d.u, .int .u64 d.x, .slice d.pv d.n d.cv, .slice d.pm d.m d.cm, .string d.S]] w
      fun e w' => e = .returned (.bool true) ∧ ∃ xv' yv' bv' is' bs', WSt base U W0 w' xv' yv' bv' is' bs' ∧ bs'.length ≤ bs.length + 1 := by
  obtain ⟨K, A, B, C, D, u, x, pv, n, cv, pm, m, cm, S, vs, ms⟩ := d
  obtain ⟨rv, big, nle, rm, mle, ain⟩ := hd
  simp only at *
  have hbase : base ≤ w.heap.size := by have := h.u0; have := h.ult; omega
  by_cases h1 : K = 1
  · subst h1
    have HB := hide (fun o => built_any base U W0 (w.alloc o) xv yv bv is bs (h.below (alloc_below w o)) 1 A B C D u x S pv n cv vs (rdm_of (h.below (alloc_below w o)) (rv.alloc hbase o)) big nle pm m cm ms (rdm_of (h.below (alloc_below w o)) (rm.alloc hbase o)) mle)
    clear h rv rm
    go_enter Tryd.func6, Tryd.ntmps6
    go_wp2_with fail
    refine (unhide HB _).mono ?_
    rintro e w1 ⟨rfl, xv', yv', is', hst⟩
    have HS := hide hst
    clear hst
    go_wp2
    go_ret
    exact ⟨rfl, xv', yv', bv, is', bs, unhide HS, by omega⟩
  · by_cases h0 : K < 2
    · have k1 : (K == 1) = false := by simp; omega
      have k2 : (K == 12) = false := by simp; omega
      have HS := hide (fun o => h.below (alloc_below w o))
      clear h rv rm
      go_enter Tryd.func6, Tryd.ntmps6
      go_wp2
      go_ret
      exact ⟨rfl, xv, yv, bv, is, bs, unhide HS _, by omega⟩
    · have h2 : K = 2 := by omega
      subst h2
      have hw1 : ∀ o, WSt base U W0 (w.alloc o) xv yv bv is bs := fun o => h.below (alloc_below w o)
      have hc0 : ∀ o, (w.alloc o).cell? ⟨U, 0, none⟩ = some xv := fun o => (hw1 o).cells.1
      obtain ⟨px, cx, rfl, hcx⟩ := own_slice h.ox
      have hl6 := h.ilen
      by_cases he : is.length = 0
      · have HS := hide hw1
        clear h rv rm hw1
        go_enter Tryd.func6, Tryd.ntmps6
        go_wp2
        go_ret
        exact ⟨rfl, _, yv, bv, is, bs, unhide HS _, by omega⟩
      · have hne : ((is.length : Int) == 0) = false := by rw [beq_eq_false_iff_ne]; omega
        have HS := hide hw1
        obtain ⟨k, hk, hp⟩ := pick_fix A is.length (by omega) (by omega) ain
        have HP := hide hp
        have HE := hide (fun o q => encoded_any base U W0 ((w.alloc o).drewN q) _ yv bv is bs k ((hw1 o).below (drewN_below _ q)) hk hbs hT hb0)
        clear hp
        clear h rv rm hw1
        go_enter Tryd.func6, Tryd.ntmps6
        go_wp2_with fail
        go_quiet ((go_at_call 13; exact Calls.quiet_of_same (unhide HP _)))
        go_wp2_with fail
        refine (unhide HE _ _).mono ?_
        rintro e w1 ⟨rfl, bv', bs', hst, hlen⟩
        have HST := hide hst
        clear hst
        go_wp2
        go_ret
        exact ⟨rfl, _, yv, bv', is, bs', unhide HST, by omega⟩
end Lw
end Go.Proofs.YtmefkcbchpjeoaaDoor
