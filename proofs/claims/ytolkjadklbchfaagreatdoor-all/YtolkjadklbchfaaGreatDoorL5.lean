import Derived.Test.YtolkjadklbchfaaGreatDoorL4
/- Walks of the law: step. -/
open Go Go.RowKit
namespace Go.Proofs.YtolkjadklbchfaaGreatDoor
namespace Lw
open Mem Rf Pr

/-- A step of the script, as data. -/
structure OpD where
  K : Int
  A : Int
  B : Int
  C : Int
  D : Int
  u : Int
  x : Int
  pv : Option Addr
  n : Nat
  cv : Nat
  pm : Option Addr
  m : Nat
  cm : Nat
  S : ByteArray
  vs : List Nat
  ms : List Int

def OpD.V (d : OpD) : Value := .slice d.pv d.n d.cv
def OpD.M (d : OpD) : Value := .slice d.pm d.m d.cm

/-- What a step's lists read as, in blocks below base. -/
structure OpOk (base : Nat) (w : World) (d : OpD) : Prop where
  rv : Rd base w (.slice d.pv d.n d.cv) (U64 d.vs)
  big : ∀ y ∈ d.vs, y < 18446744073709551616
  nle : d.n ≤ 17592186044000
  rm : Rd base w (.slice d.pm d.m d.cm) (I64 d.ms)
  mle : d.m ≤ 17592186044000
  ain : -9223372036854775808 ≤ d.A ∧ d.A ≤ 9223372036854775807
  bin : -9223372036854775808 ≤ d.B ∧ d.B ≤ 9223372036854775807
  uin : 0 ≤ d.u ∧ d.u ≤ 18446744073709551615
  xin : 0 ≤ d.x ∧ d.x ≤ 18446744073709551615

theorem OpOk.below {base : Nat} {w w' : World} {d : OpD} (h : OpOk base w d) (hb : Below base w w') : OpOk base w' d :=
  ⟨h.rv.below hb, h.big, h.nle, h.rm.below hb, h.mle, h.ain, h.bin, h.uin, h.xin⟩

/-- What lies below base is none of the law's. -/
theorem rdm_of {base U : Nat} {W0 w : World} {xv yv bv : Value} {is : List It} {bs : List Bk} {y : Value} {ys : List Value} (h : WSt base U W0 w xv yv bv is bs) (hr : Rd base w y ys) : RdM (Mut U xv yv bv) w y ys := by
  have hul := h.ult
  have hu := h.u0
  refine ⟨hr.mono (by omega), fun hn k hk hm => ?_⟩
  have := hr.lt hn k hk
  rcases hm with q | q | q | q
  · omega
  · have := (h.ox.lt k q).1; omega
  · have := (h.oy.lt k q).1; omega
  · have := (h.ob.lt k q).1; omega

theorem alloc_below (w : World) (o : Obj) : Below w.heap.size w (w.alloc o) := (Below.refl _ _).alloc (Nat.le_refl _) _

set_option maxHeartbeats 400000 in
theorem pick_fix (c : Int) (n : Nat) (hn : 0 < n) (hn2 : n ≤ 1000) (hc : -9223372036854775808 ≤ c ∧ c ≤ 9223372036854775807) :
    ∃ k : Nat, k < n ∧ ∀ w : World, Calls Tryz.prog 15 #[.int .i64 c, .int .i64 n] w fun e w' => e = .returned (.int .i64 k) ∧ w' = w := by
  by_cases h0 : c < 0
  · obtain ⟨k, hk, he⟩ := tmod_nonneg (a := -(c + 1)) (n := n) (by omega) hn
    rw [Int.neg_tmod] at he
    refine ⟨k, hk, fun w => ?_⟩
    have HE := hide he
    clear he
    go_enter Tryz.func15, Tryz.ntmps15
    go_wp2
    go_ret
    exact ⟨ret_int (unhide HE), rfl⟩
  · obtain ⟨k, hk, he⟩ := tmod_nonneg (a := c) (n := n) (by omega) hn
    rw [Int.tmod_eq_emod_of_nonneg (by omega)] at he
    refine ⟨k, hk, fun w => ?_⟩
    have HE := hide he
    clear he
    go_enter Tryz.func15, Tryz.ntmps15
    go_wp2
    go_ret
    exact ⟨ret_int (unhide HE), rfl⟩

theorem drewN_below (w : World) (q : Nat) : Below w.heap.size w (w.drewN q) := ⟨rfl, rfl, rfl, Nat.le_refl _, fun _ _ => rfl⟩

theorem asd_of {base U : Nat} {W0 w : World} {xv yv bv : Value} {is : List It} {bs : List Bk} {k : Nat} (h : WSt base U W0 w xv yv bv is bs) (hk : k < is.length) (hU : Bru W0) (hb0 : 2 ≤ base) : ∃ X pv cv pm cm vs ms, Asd w U k X pv cv pm cm vs ms := by
  obtain ⟨c0, c1, _, _⟩ := h.cells
  have hl6 := h.ilen
  obtain ⟨gx, cx, rfl, hcx, _, hgx, hxc⟩ := own_form2 h.ox (by omega)
  obtain ⟨gy, cy, rfl, hcy, _, hgy, hyc⟩ := own_form2 h.oy (by omega)
  have hxk := hxc k _ (ptrs_at is k hk)
  have hyk := hyc _ _ (refs_at is k hk).1
  have hyk2 := hyc _ _ (refs_at is k hk).2
  have hit := h.its is[k] (List.getElem_mem hk)
  obtain ⟨lo, hi, hidx, _, _⟩ := hit.idx
  obtain ⟨pv, cv, hV, _⟩ := hit.rv.1.form
  obtain ⟨pm, cm, hM, _⟩ := hit.rm.1.form
  rw [U64_len] at hV
  rw [NI_len] at hM
  have rv := hit.rv.1
  have rm := hit.rm.1
  rw [hV] at hyk rv
  rw [hM] at hyk2 rm
  exact ⟨is[k].X, pv, cv, pm, cm, is[k].vs, is[k].ms, ⟨⟨lo, hi, hidx⟩, hit.fit, hU.below h.bel (by omega)⟩, rv, rm, gx, cx, gy, cy, is.length, c0, c1, hk, hl6, hxk, hyk, hyk2⟩

theorem asked_all (U k X : Nat) (w : World) (pv : Option Addr) (cv : Nat) (pm : Option Addr) (cm : Nat) (vs ms : List Nat) (h : Asd w U k X pv cv pm cm vs ms) (K A B C D u x : Int) (V M : Value) (S : ByteArray) (h3 : 3 ≤ K) (h11 : K ≤ 11) (hB : -9223372036854775808 ≤ B ∧ B ≤ 9223372036854775807) (hu : 0 ≤ u ∧ u ≤ 18446744073709551615) (hx : 0 ≤ x ∧ x ≤ 18446744073709551615) :
    Calls Tryz.prog 17 #[.pointer (some ⟨U, 0, none⟩), .agg #[.int .i64 K, .int .i64 A, .int .i64 B, .int .i64 C, .int .i64 D, .int .u64 u, .int .u64 x, V, M, .string S], .int .i64 (k : Nat)] w fun e w' => e = .returned (.bool true) ∧ Below w.heap.size w w' := by
  obtain ⟨un, hun⟩ := Int.eq_ofNat_of_zero_le hu.1
  obtain ⟨xn, hxn⟩ := Int.eq_ofNat_of_zero_le hx.1
  have hu2 : un < 18446744073709551616 := by omega
  have hx2 : xn < 18446744073709551616 := by omega
  rw [hun, hxn]
  rcases (show K = 3 ∨ K = 4 ∨ K = 5 ∨ K = 6 ∨ K = 7 ∨ K = 8 ∨ K = 9 ∨ K = 10 ∨ K = 11 by omega) with rfl | rfl | rfl | rfl | rfl | rfl | rfl | rfl | rfl
  · exact askedSize U k X w pv cv pm cm vs ms h A B C D _ _ V M S
  · exact askedAccess U k X w pv cv pm cm vs ms h A B C D _ _ V M S hB
  · exact askedRank U k X w pv cv pm cm vs ms h A B C D un _ V M S hu2
  · exact askedSelect U k X w pv cv pm cm vs ms h A B C D un _ V M S hB hu2
  · exact askedLeast U k X w pv cv pm cm vs ms h A B C D _ _ V M S
  · exact askedNth U k X w pv cv pm cm vs ms h A B C D _ _ V M S
  · exact askedCount U k X w pv cv pm cm vs ms h A B C D un xn V M S hu2 hx2
  · exact askedBefore U k X w pv cv pm cm vs ms h A B C D _ _ V M S
  · exact askedAfter U k X w pv cv pm cm vs ms h A B C D _ _ V M S

set_option maxHeartbeats 4000000 in
theorem step_any (base U : Nat) (W0 w : World) (xv yv bv : Value) (is : List It) (bs : List Bk) (h : WSt base U W0 w xv yv bv is bs) (d : OpD) (hd : OpOk base w d) (hK : d.K ≤ 11) (hbs : bs.length ≤ 1300000000000) (hT : Tab W0) (hU : Bru W0) (hb0 : 2 ≤ base) :
    Calls Tryz.prog 8 #[.pointer (some ⟨U, 0, none⟩), .agg #[.int .i64 d.K, .int .i64 d.A, .int .i64 d.B, .int .i64 d.C, .int .i64 d.D, .int .u64 d.u, .int .u64 d.x, .slice d.pv d.n d.cv, .slice d.pm d.m d.cm, .string d.S]] w
      fun e w' => e = .returned (.bool true) ∧ ∃ xv' yv' bv' is' bs', WSt base U W0 w' xv' yv' bv' is' bs' ∧ bs'.length ≤ bs.length + 1 := by
  obtain ⟨K, A, B, C, D, u, x, pv, n, cv, pm, m, cm, S, vs, ms⟩ := d
  obtain ⟨rv, big, nle, rm, mle, ain, bin, uin, xin⟩ := hd
  simp only at *
  have hbase : base ≤ w.heap.size := by have := h.u0; have := h.ult; omega
  by_cases h1 : K = 1
  · subst h1
    have HB := hide (fun o => built_any base U W0 (w.alloc o) xv yv bv is bs (h.below (alloc_below w o)) 1 A B C D u x S pv n cv vs (rdm_of (h.below (alloc_below w o)) (rv.alloc hbase o)) big nle pm m cm ms (rdm_of (h.below (alloc_below w o)) (rm.alloc hbase o)) mle)
    clear h rv rm
    go_enter Tryz.func8, Tryz.ntmps8
    go_wp2_with fail
    refine (unhide HB _).mono ?_
    rintro e w1 ⟨rfl, xv', yv', is', hst⟩
    have HS := hide hst
    clear hst
    go_wp2
    go_ret
    exact ⟨rfl, xv', yv', bv, is', bs, unhide HS, by omega⟩
  · by_cases h0 : K < 2
    · have k1 : (K == 1) = false := by simp; omega
      have k2 : (K == 12) = false := by simp; omega
      have HS := hide (fun o => h.below (alloc_below w o))
      clear h rv rm
      go_enter Tryz.func8, Tryz.ntmps8
      go_wp2
      go_ret
      exact ⟨rfl, xv, yv, bv, is, bs, unhide HS _, by omega⟩
    · by_cases h2 : K = 2
      · subst h2
        have hw1 : ∀ o, WSt base U W0 (w.alloc o) xv yv bv is bs := fun o => h.below (alloc_below w o)
        have hc0 : ∀ o, (w.alloc o).cell? ⟨U, 0, none⟩ = some xv := fun o => (hw1 o).cells.1
        obtain ⟨px, cx, rfl, hcx⟩ := own_slice h.ox
        have hl6 := h.ilen
        by_cases he : is.length = 0
        · have HS := hide hw1
          clear h rv rm hw1
          go_enter Tryz.func8, Tryz.ntmps8
          go_wp2
          go_ret
          exact ⟨rfl, _, yv, bv, is, bs, unhide HS _, by omega⟩
        · have hne : ((is.length : Int) == 0) = false := by rw [beq_eq_false_iff_ne]; omega
          have HS := hide hw1
          obtain ⟨k, hk, hp⟩ := pick_fix A is.length (by omega) (by omega) ain
          have HP := hide hp
          have HE := hide (fun o q => encoded_any base U W0 ((w.alloc o).drewN q) _ yv bv is bs k ((hw1 o).below (drewN_below _ q)) hk hbs hT hb0)
          clear hp
          clear h rv rm hw1
          go_enter Tryz.func8, Tryz.ntmps8
          go_wp2_with fail
          go_quiet ((go_at_call 15; exact Calls.quiet_of_same (unhide HP _)))
          go_wp2_with fail
          refine (unhide HE _ _).mono ?_
          rintro e w1 ⟨rfl, bv', bs', hst, hlen⟩
          have HST := hide hst
          clear hst
          go_wp2
          go_ret
          exact ⟨rfl, _, yv, bv', is, bs', unhide HST, by omega⟩
      · have hK3 : 3 ≤ K := by omega
        have hw1 : ∀ o, WSt base U W0 (w.alloc o) xv yv bv is bs := fun o => h.below (alloc_below w o)
        have hc0 : ∀ o, (w.alloc o).cell? ⟨U, 0, none⟩ = some xv := fun o => (hw1 o).cells.1
        obtain ⟨px, cx, rfl, hcx⟩ := own_slice h.ox
        have hl6 := h.ilen
        have k1 : (K == 1) = false := by rw [beq_eq_false_iff_ne]; omega
        have k2 : (K == 12) = false := by rw [beq_eq_false_iff_ne]; omega
        have k3 : (K == 2) = false := by rw [beq_eq_false_iff_ne]; omega
        have k4 : (K == 13) = false := by rw [beq_eq_false_iff_ne]; omega
        by_cases he : is.length = 0
        · have HS := hide hw1
          clear h rv rm hw1
          go_enter Tryz.func8, Tryz.ntmps8
          go_wp2
          go_ret
          exact ⟨rfl, _, yv, bv, is, bs, unhide HS _, by omega⟩
        · have hne : ((is.length : Int) == 0) = false := by rw [beq_eq_false_iff_ne]; omega
          have HS := hide (fun o q => (hw1 o).below (drewN_below _ q))
          obtain ⟨k, hk, hp⟩ := pick_fix A is.length (by omega) (by omega) ain
          have HP := hide hp
          have HE : Hid (∀ o q, Calls Tryz.prog 17 #[.pointer (some ⟨U, 0, none⟩), .agg #[.int .i64 K, .int .i64 A, .int .i64 B, .int .i64 C, .int .i64 D, .int .u64 u, .int .u64 x, .slice pv n cv, .slice pm m cm, .string S], .int .i64 (k : Nat)] ((w.alloc o).drewN q) fun e w' => e = .returned (.bool true) ∧ Below ((w.alloc o).drewN q).heap.size ((w.alloc o).drewN q) w') := by
            intro o q
            obtain ⟨X, pv1, cv1, pm1, cm1, vs1, ms1, hasd⟩ := asd_of ((hw1 o).below (drewN_below _ q)) hk hU hb0
            exact asked_all U k X _ pv1 cv1 pm1 cm1 vs1 ms1 hasd K A B C D u x _ _ S hK3 hK bin uin xin
          clear hp
          clear h rv rm hw1
          go_enter Tryz.func8, Tryz.ntmps8
          go_wp2_with fail
          go_quiet ((go_at_call 15; exact Calls.quiet_of_same (unhide HP _)))
          go_wp2_with fail
          refine (unhide HE _ _).mono ?_
          rintro e w1 ⟨rfl, hb1⟩
          have HST := hide ((unhide HS _ _).below hb1)
          clear hb1 HE HS
          go_wp2
          go_ret
          exact ⟨rfl, _, yv, bv, is, bs, unhide HST, by omega⟩
end Lw
end Go.Proofs.YtolkjadklbchfaaGreatDoor
/- Walks of the law: plays, Builds. -/
open Go Go.RowKit
namespace Go.Proofs.YtolkjadklbchfaaGreatDoor
namespace Lw
open Mem Rf Pr

def opc (d : OpD) : List Value := [.int .i64 d.K, .int .i64 d.A, .int .i64 d.B, .int .i64 d.C, .int .i64 d.D, .int .u64 d.u, .int .u64 d.x, .slice d.pv d.n d.cv, .slice d.pm d.m d.cm, .string d.S]

/-- The script in memory, in blocks below base. -/
structure Scr (base : Nat) (w : World) (ps : Option Addr) (ds : List OpD) : Prop where
  cells : ∀ i (h : i < ds.length), ∃ b o, ps = some ⟨b, o, none⟩ ∧ b < base ∧ ∀ j u, (opc ds[i])[j]? = some u → w.cell? ⟨b, o + i * 10 + j, none⟩ = some u
  ok : ∀ d ∈ ds, OpOk base w d

theorem zero_world (w : World) (o1 o2 : Obj) : WSt w.heap.size w.heap.size w (((w.alloc (.cells #[.slice none 0 0, .slice none 0 0, .slice none 0 0] 32)).alloc o1).alloc o2) (.slice none 0 0) (.slice none 0 0) (.slice none 0 0) [] [] := by
  refine ⟨Nat.le_refl _, ?_, World.ownsRow_nil _ _ _ _, World.ownsRow_nil _ _ _ _, World.ownsRow_nil _ _ _ _, Ap.nil _, Ap.nil _, Ap.nil _, by simp [Value.ownBlock], by simp [Value.ownBlock], by simp [Value.ownBlock], by simp, by simp, by simp, ?_⟩
  · rw [Below.heap_alloc _ _ _ (by simp; omega), Below.heap_alloc _ _ _ (by simp)]
    exact heap_alloc_new _ _
  · exact (((Below.refl _ _).alloc (Nat.le_refl _) _).alloc (by simp) _).alloc (by simp; omega) _

theorem lit_v (w : World) : Rd (w.heap.size + 2) (((w.alloc (.cells #[.slice none 0 0, .slice none 0 0, .slice none 0 0] 32)).alloc (.cells #[.int .u64 5, .int .u64 2, .int .u64 5] 34)).alloc (.cells #[.int .i64 1] 3)) (.slice (some ⟨w.heap.size + 1, 0, none⟩) 3 3) (U64 [5, 2, 5]) := by
  refine ⟨_, 3, rfl, Nat.le_refl _, .inr ⟨w.heap.size + 1, 0, rfl, by omega, ?_⟩⟩
  have hb : (((w.alloc (.cells #[.slice none 0 0, .slice none 0 0, .slice none 0 0] 32)).alloc (.cells #[.int .u64 5, .int .u64 2, .int .u64 5] 34)).alloc (.cells #[.int .i64 1] 3)).heap[w.heap.size + 1]? = some (.cells #[.int .u64 5, .int .u64 2, .int .u64 5] 34) := by
    rw [Below.heap_alloc _ _ _ (by simp)]
    have := heap_alloc_new (w.alloc (.cells #[.slice none 0 0, .slice none 0 0, .slice none 0 0] 32)) (.cells #[.int .u64 5, .int .u64 2, .int .u64 5] 34)
    simpa using this
  intro j u hu
  rw [Nat.zero_add, cell_of_row _ _ _ _ _ (0, 0) hb]
  simpa [U64] using hu

theorem lit_m (w : World) : Rd (w.heap.size + 3) (((w.alloc (.cells #[.slice none 0 0, .slice none 0 0, .slice none 0 0] 32)).alloc (.cells #[.int .u64 5, .int .u64 2, .int .u64 5] 34)).alloc (.cells #[.int .i64 1] 3)) (.slice (some ⟨w.heap.size + 2, 0, none⟩) 1 1) (I64 [1]) := by
  refine ⟨_, 1, rfl, Nat.le_refl _, .inr ⟨w.heap.size + 2, 0, rfl, by omega, ?_⟩⟩
  have hb : (((w.alloc (.cells #[.slice none 0 0, .slice none 0 0, .slice none 0 0] 32)).alloc (.cells #[.int .u64 5, .int .u64 2, .int .u64 5] 34)).alloc (.cells #[.int .i64 1] 3)).heap[w.heap.size + 2]? = some (.cells #[.int .i64 1] 3) := by
    have := heap_alloc_new ((w.alloc (.cells #[.slice none 0 0, .slice none 0 0, .slice none 0 0] 32)).alloc (.cells #[.int .u64 5, .int .u64 2, .int .u64 5] 34)) (.cells #[.int .i64 1] 3)
    simpa using this
  intro j u hu
  rw [Nat.zero_add, cell_of_row _ _ _ _ _ (0, 0) hb]
  simpa [I64] using hu

/-- What plays holds at each round. -/
def PSt (w wr : World) (k : Nat) : Prop := ∃ xv yv bv is bs, WSt w.heap.size w.heap.size w wr xv yv bv is bs ∧ bs.length ≤ k

theorem first_any (w : World) :
    Calls Tryz.prog 7 #[.pointer (some ⟨w.heap.size, 0, none⟩), .agg #[.int .i64 0, .int .i64 0, .int .i64 0, .int .i64 0, .int .i64 0, .int .u64 0, .int .u64 0, .slice (some ⟨w.heap.size + 1, 0, none⟩) 3 3, .slice (some ⟨w.heap.size + 2, 0, none⟩) 1 1, .string ByteArray.empty]]
      (((w.alloc (.cells #[.slice none 0 0, .slice none 0 0, .slice none 0 0] 32)).alloc (.cells #[.int .u64 5, .int .u64 2, .int .u64 5] 34)).alloc (.cells #[.int .i64 1] 3)) fun e w' => e = .returned (.bool true) ∧ PSt w w' 0 := by
  have hz := zero_world w (.cells #[.int .u64 5, .int .u64 2, .int .u64 5] 34) (.cells #[.int .i64 1] 3)
  refine (built_any _ _ _ _ _ _ _ _ _ hz 0 0 0 0 0 0 0 ByteArray.empty _ 3 3 [5, 2, 5] ⟨(lit_v w).mono (by simp), ?_⟩ (by simp) (by omega) _ 1 1 [1] ⟨(lit_m w).mono (by simp), ?_⟩ (by omega)).mono ?_
  · intro _ k hk hm
    simp [Value.ownBlock] at hk
    rcases hm with q | q | q | q
    · omega
    · simp [Value.ownBlock] at q
    · simp [Value.ownBlock] at q
    · simp [Value.ownBlock] at q
  · intro _ k hk hm
    simp [Value.ownBlock] at hk
    rcases hm with q | q | q | q
    · omega
    · simp [Value.ownBlock] at q
    · simp [Value.ownBlock] at q
    · simp [Value.ownBlock] at q
  · rintro e w' ⟨rfl, xv', yv', is', hst⟩
    exact ⟨rfl, xv', yv', _, is', [], hst, by simp⟩

set_option maxHeartbeats 1000000 in
theorem plays_any (w : World) (ps : Option Addr) (L cs : Nat) (ds : List OpD) (top : Int) (htop : top ≤ 11) (hs : Scr w.heap.size w ps ds) (hL : L = ds.length) (hL2 : L ≤ 1200000000000) (hT : Tab w) (hU : Bru w) :
    Calls Tryz.prog 6 #[.slice ps L cs, .int .i64 top] w fun e w' => e = .returned (.bool true) ∧ Below w.heap.size w w' := by
  have HSC := hide hs
  have HT := hide hT
  have h0 : 2 ≤ w.heap.size := by have := hT.1; have := hU.1; omega
  have HU := hide hU
  subst hL
  have HF := hide (first_any w)
  clear hs hT hU
  go_enter Tryz.func6, Tryz.ntmps6
  go_wp2_with fail
  refine (unhide HF).mono ?_
  rintro e w1 ⟨rfl, hst⟩
  have HS := hide hst
  clear hst HF
  go_wp2_with fail
  go_loopw [6, 7, 8] (fun ok ii _ wr => ∃ k : Nat, k ≤ ds.length ∧ ii = .int .i64 k ∧ ok = .bool true ∧ PSt w wr k) (fun _ ii _ _ => ds.length - (intOf ii).toNat)
  case atStart => exact ⟨0, Nat.zero_le _, rfl, rfl, unhide HS⟩
  case round =>
    obtain ⟨k, hk, rfl, rfl, hst⟩ := hrel
    clear HS
    by_cases hlt : k < ds.length
    · obtain ⟨b, o, hpe, hb, hcs⟩ := (unhide HSC).cells k hlt
      subst hpe
      obtain ⟨xv, yv, bv, is, bs, hw, hbl⟩ := hst
      have hcw : ∀ j u, (opc ds[k])[j]? = some u → wr.cell? ⟨b, o + k * 10 + j, none⟩ = some u := fun j u hu => (hw.bel.cell (p := ⟨b, o + k * 10 + j, none⟩) hb).trans (hcs j u hu)
      have e0 : wr.cell? ⟨b, o + k * 10, none⟩ = some (.int .i64 ds[k].K) := hcw 0 _ rfl
      have e1 := hcw 1 _ rfl
      have e2 := hcw 2 _ rfl
      have e3 := hcw 3 _ rfl
      have e4 := hcw 4 _ rfl
      have e5 := hcw 5 _ rfl
      have e6 := hcw 6 _ rfl
      have e7 := hcw 7 _ rfl
      have e8 := hcw 8 _ rfl
      have e9 := hcw 9 _ rfl
      have hok := ((unhide HSC).ok ds[k] (List.getElem_mem hlt)).below hw.bel
      by_cases hK : ds[k].K ≤ top
      · have HST := hide (step_any _ _ _ wr xv yv bv is bs hw ds[k] hok (by omega) (by omega) (unhide HT) (unhide HU) h0)
        have hKi : ¬ top < ds[k].K := by omega
        clear hcs hcw hok hw
        generalize ds[k] = d at *
        go_wp2_with fail
        refine (unhide HST).mono ?_
        rintro e w2 ⟨rfl, xv', yv', bv', is', bs', hw2, hb2⟩
        have HLK := hide (looks_any _ _ _ w2 xv' yv' bv' is' bs' hw2 (by omega))
        have HW2 := hide hw2
        clear hw2 HST
        go_wp2_with fail
        refine (unhide HLK).mono ?_
        rintro e w3 ⟨rfl, hb3⟩
        have HP : Hid (PSt w w3 (k + 1)) := ⟨xv', yv', bv', is', bs', (unhide HW2).below hb3, by omega⟩
        clear hb3 HW2 HLK
        go_wp2
        go_roundw
        case rel => exact ⟨k + 1, by omega, by go_num, rfl, unhide HP⟩
        case measure => simp [intOf]; omega
      · have hKi : top < ds[k].K := by omega
        have HP : Hid (PSt w wr (k + 1)) := ⟨xv, yv, bv, is, bs, hw, by omega⟩
        clear hcs hcw hok hw
        generalize ds[k] = d at *
        go_wp2
        go_roundw
        case rel => exact ⟨k + 1, by omega, by go_num, rfl, unhide HP⟩
        case measure => simp [intOf]; omega
    · obtain ⟨xv, yv, bv, is, bs, hw, hbl⟩ := hst
      have hbl2 : bs.length ≤ ds.length := by omega
      clear hbl HSC
      have HW := hide hw
      clear hw
      go_wp2_with fail
      go_loopw [6, 9] (fun ok ii wt => ∃ j : Nat, j ≤ is.length ∧ ii = .int .i64 j ∧ ok = .bool true ∧ ∃ bv' bs', WSt w.heap.size w.heap.size w wt xv yv bv' is bs' ∧ bs'.length ≤ ds.length + j) (fun _ ii _ => is.length - (intOf ii).toNat)
      case atStart => exact ⟨0, Nat.zero_le _, rfl, rfl, bv, bs, unhide HW, by omega⟩
      case round =>
        obtain ⟨j, hj, rfl, rfl, bv', bs', hw2, hb2⟩ := hrel
        clear HW
        have hl6 := hw2.ilen
        obtain ⟨c0, _, _, _⟩ := hw2.cells
        obtain ⟨px, cx, hxe, hcx⟩ := own_slice hw2.ox
        subst hxe
        by_cases hjl : j < is.length
        · have HE := hide (encoded_any _ _ _ _ _ _ _ _ _ j hw2 hjl (by omega) (unhide HT) h0)
          clear hw2
          go_wp2_with fail
          refine (unhide HE).mono ?_
          rintro e w3 ⟨rfl, bv3, bs3, hw3, hb3⟩
          have HP : Hid (∃ bv' bs', WSt w.heap.size w.heap.size w w3 (.slice px is.length cx) yv bv' is bs' ∧ bs'.length ≤ ds.length + (j + 1)) := ⟨bv3, bs3, hw3, by omega⟩
          clear hw3 HE
          go_wp2
          go_roundw
          case rel => exact ⟨j + 1, by omega, by go_num, rfl, unhide HP⟩
          case measure => simp [intOf]; omega
        · have HB := hide hw2.bel
          clear hw2
          go_wp2
          all_goals go_ret
          all_goals exact ⟨rfl, unhide HB⟩

end Lw
end Go.Proofs.YtolkjadklbchfaaGreatDoor
