import Derived.Test.YtolkjadklbchfaaGreatDoorV1
import Derived.Test.YtolkjadklbchfaaGreatDoorT1
/- Walks of the document's answer: values. -/
open Go Go.RowKit
namespace Go.Proofs.YtolkjadklbchfaaGreatDoor
namespace Rf
open Mem Pr Ld

/-- The loops' state: the values, the order, the noughts, the ones. -/
structure RvIn (w wr : World) (n : Nat) (out order z o : List Nat) (ou oq ze on : Value) : Prop where
  o1 : wr.ownsRow w.heap.size 34 1 ou n (U64 out)
  o2 : wr.ownsRow w.heap.size 3 1 oq n (I64 (NI order))
  o3 : wr.ownsRow w.heap.size 3 1 ze z.length (I64 (NI z))
  o4 : wr.ownsRow w.heap.size 3 1 on o.length (I64 (NI o))
  a1 : Ap ou oq
  a2 : Ap ou ze
  a3 : Ap ou on
  a4 : Ap oq ze
  a5 : Ap oq on
  a6 : Ap ze on
  bel : Below w.heap.size w wr
theorem RvIn.drew {w wr : World} {n : Nat} {out order z o : List Nat} {ou oq ze on : Value} (h : RvIn w wr n out order z o ou oq ze on) : RvIn w wr.drew n out order z o ou oq ze on :=
  ⟨h.o1.drew, h.o2.drew, h.o3.drew, h.o4.drew, h.a1, h.a2, h.a3, h.a4, h.a5, h.a6, h.bel.drew⟩
/-- A value is written. -/
theorem RvIn.put {w wr : World} {n : Nat} {out order z o : List Nat} {g c : Nat} {oq ze on : Value} (h : RvIn w wr n out order z o (.slice (some ⟨g, 0, none⟩) n c) oq ze on) (hg : w.heap.size ≤ g) (j y : Nat) :
    RvIn w (wr.setCell ⟨g, j, none⟩ (.int .u64 (y : Int))) n (out.set j y) order z o (.slice (some ⟨g, 0, none⟩) n c) oq ze on := by
  have hne : ∀ {u : Value}, Ap (.slice (some ⟨g, 0, none⟩) n c) u → ∀ k, u.ownBlock = some k → k ≠ g := fun hap k hk e => hap g rfl (by rw [hk, e])
  refine ⟨by rw [U64_set]; exact (h.o1.stored j _).1, own_setCell h.o2 (hne h.a1) _, own_setCell h.o3 (hne h.a2) _, own_setCell h.o4 (hne h.a3) _, h.a1, h.a2, h.a3, h.a4, h.a5, h.a6, h.bel.setCell hg _⟩
/-- A place is written into the order. -/
theorem RvIn.putq {w wr : World} {n : Nat} {out order z o : List Nat} {g c : Nat} {ou ze on : Value} (h : RvIn w wr n out order z o ou (.slice (some ⟨g, 0, none⟩) n c) ze on) (hg : w.heap.size ≤ g) (j y : Nat) :
    RvIn w (wr.setCell ⟨g, j, none⟩ (.int .i64 (y : Int))) n out (order.set j y) z o ou (.slice (some ⟨g, 0, none⟩) n c) ze on := by
  have hne : ∀ {u : Value}, Ap (.slice (some ⟨g, 0, none⟩) n c) u → ∀ k, u.ownBlock = some k → k ≠ g := fun hap k hk e => hap g rfl (by rw [hk, e])
  refine ⟨own_setCell h.o1 (hne h.a1.symm) _, by rw [NI_set]; exact (h.o2.stored j _).1, own_setCell h.o3 (hne h.a4) _, own_setCell h.o4 (hne h.a5) _, h.a1, h.a2, h.a3, h.a4, h.a5, h.a6, h.bel.setCell hg _⟩
theorem NI_app (a b : List Nat) : I64 (NI (a ++ b)) = I64 (NI a) ++ I64 (NI b) := by simp [NI, I64]
/-- A place more among the noughts; among the ones. -/
theorem RvIn.addz {w wr w1 : World} {n x : Nat} {out order z o : List Nat} {ou oq ze on ze' : Value} {ob : Obj} (h : RvIn w wr n out order z o ou oq ze on)
    (hown : w1.ownsRow w.heap.size 3 1 ze' (z.length + [Value.int .i64 (x : Int)].length) (I64 (NI z) ++ [Value.int .i64 (x : Int)])) (hg : (wr.alloc ob).grownBy w1 ze.ownBlock) (hat : ze'.ownBlock = ze.ownBlock ∨ ze'.ownBlock = some (wr.alloc ob).heap.size) : RvIn w w1 n out order (z ++ [x]) o ou oq ze' on := by
  have r1 := app_own h.o1 h.a2 hg hat
  have r2 := app_own h.o2 h.a4 hg hat
  have r4 := app_own h.o4 h.a6.symm hg hat
  have rb := app_below h.bel (Nat.le_refl _) h.o3 hg
  exact ⟨r1.1, r2.1, by rw [NI_app, List.length_append]; exact hown, r4.1, h.a1, r1.2, h.a3, r2.2, h.a5, r4.2.symm, rb.1⟩
theorem RvIn.addo {w wr w1 : World} {n x : Nat} {out order z o : List Nat} {ou oq ze on on' : Value} {ob : Obj} (h : RvIn w wr n out order z o ou oq ze on)
    (hown : w1.ownsRow w.heap.size 3 1 on' (o.length + [Value.int .i64 (x : Int)].length) (I64 (NI o) ++ [Value.int .i64 (x : Int)])) (hg : (wr.alloc ob).grownBy w1 on.ownBlock) (hat : on'.ownBlock = on.ownBlock ∨ on'.ownBlock = some (wr.alloc ob).heap.size) : RvIn w w1 n out order z (o ++ [x]) ou oq ze on' := by
  have r1 := app_own h.o1 h.a3 hg hat
  have r2 := app_own h.o2 h.a5 hg hat
  have r3 := app_own h.o3 h.a6 hg hat
  have rb := app_below h.bel (Nat.le_refl _) h.o4 hg
  exact ⟨r1.1, r2.1, r3.1, by rw [NI_app, List.length_append]; exact hown, h.a1, h.a2, r1.2, h.a4, r2.2, r3.2, rb.1⟩
/-- The next order. -/
theorem RvIn.join {w wr w1 : World} {n : Nat} {out order z o : List Nat} {ou oq ze on v' : Value} (h : RvIn w wr n out order z o ou oq ze on) (hl : z.length + o.length = n)
    (hown : w1.ownsRow w.heap.size 3 1 v' (z.length + (I64 (NI o)).length) (I64 (NI z) ++ I64 (NI o))) (hg : wr.grownBy w1 ze.ownBlock) (hat : v'.ownBlock = ze.ownBlock ∨ v'.ownBlock = some wr.heap.size) : RvIn w w1 n out (z ++ o) [] [] ou v' (.slice none 0 0) (.slice none 0 0) := by
  have r1 := apps_own h.o1 h.a2 hg hat
  have rb := apps_below h.bel (Nat.le_refl _) h.o3 hg
  rw [I64_len, show (NI o).length = o.length from by simp [NI], hl] at hown
  exact ⟨r1.1, by rw [NI_app]; exact hown, World.ownsRow_nil _ _ _ _, World.ownsRow_nil _ _ _ _, r1.2, Ap.nil _, Ap.nil _, Ap.nil _, Ap.nil _, Ap.nil _, rb.1⟩

theorem outs_small {us : List Nat} {W t : Nat} (hW : W ≤ 64) (ht : t < W) (hus : ∀ x ∈ us, x < 2 ^ W) (done : List Nat) (i : Nat) (hi : i < us.length) (hn : i ∉ done) : (Sp.outs us W t done)[i]?.getD 0 < 9223372036854775808 := by
  rw [Sp.outs_at hi, if_neg hn]
  have h1 := hus _ (List.getElem_mem hi)
  rw [List.getElem?_eq_getElem hi]
  have h2 : us[i] / 2 ^ (W - t) < 2 ^ t := by
    apply Nat.div_lt_of_lt_mul
    rw [← Nat.pow_add, show W - t + t = W from by omega]
    exact h1
  have h3 : 2 ^ t ≤ 2 ^ 63 := Nat.pow_le_pow_right (by omega) (by omega)
  exact Nat.lt_of_lt_of_le h2 h3

set_option maxHeartbeats 4000000 in
theorem values_any (p : Option Addr) (B c W n : Nat) (bs us : List Nat) (w : World) (hr : Rd B w (.slice p bs.length c) (By bs)) (hB : B ≤ w.heap.size) (hx : ∀ x ∈ bs, x < 256) (hW : W ≤ 64) (hn : n ≤ 200) (hl : bs.length = (W * n + 7) / 8) (hul : us.length = n) (hult : ∀ x ∈ us, x < 2 ^ W) (hlay : Sp.lay us W = Sp.rd bs (W * n)) :
    Calls Tryz.prog 74 #[.int .i64 (n : Nat), .int .i64 (W : Nat), .slice p bs.length c] w fun e w' => ∃ v, e = .returned v ∧ w'.ownsRow w.heap.size 34 1 v n (U64 us) ∧ Below w.heap.size w w' := by
  have hwn := wn_small hW hn
  have HBIT : Hid (∀ (t j : Nat) (order : List Nat), t < W → j < n → Sp.Pl us W t order → ∀ w' : World, Below w.heap.size w w' → Calls Tryz.prog 104 #[.slice p bs.length c, .int .i64 ((t : Int) * (n : Int) + (j : Int))] w' fun e w2 => e = .returned (.bool ((us[order[j]?.getD 0]?.getD 0).testBit (W - 1 - t))) ∧ w2 = w') := by
    intro t j order ht hj hp w' hb
    have hlt : t * n + j < W * n := by
      have : (t + 1) * n ≤ W * n := Nat.mul_le_mul_right _ ht
      rw [Nat.add_mul] at this
      omega
    have hbit := hp.bit ht (j := j) (by omega)
    rw [hul, hlay, Sp.rd_at _ _ _ hlt] at hbit
    have := bit_any p B bs.length c bs (t * n + j) w' (hr.below (hb.mono hB)) (by omega) hx (by omega) (by omega)
    rw [Option.some.inj hbit] at this
    rwa [show ((t * n + j : Nat) : Int) = (t : Int) * (n : Int) + (j : Int) from by simp] at this
  obtain ⟨i0, hi0, hz0, hz1, hz2⟩ := info_parts Ty.u64
  obtain ⟨j0, hj0, hy0, hy1, hy2⟩ := info_parts Ty.int
  have HI := hide (And.intro hi0 (And.intro hz0 (And.intro hz1 hz2)))
  have HJ := hide (And.intro hj0 (And.intro hy0 (And.intro hy1 hy2)))
  have HUL := hide (And.intro hul hult)
  clear hr hx hl hul hult hlay hi0 hz0 hz1 hz2 hj0 hy0 hy1 hy2
  go_enter Tryz.func74, Tryz.ntmps74
  go_wp2_with (first
    | (at_make; refine wpList_make_full _ rfl (.tmp 15) (.tmp 15) 35 rfl w.heap.size 34 i0 (.int .u64 0) 1 Tryz.underlying35 (unhide HI).1 (unhide HI).2.1 (unhide HI).2.2.1 .i64 .i64 _ _ n rfl rfl rfl rfl (by rw [(unhide HI).2.2.2]; omega) (by unfold maxLen; omega) (Nat.le_refl _) ?_; intro w1 hown1 hg1)
    | (at_make; refine wpList_make_full _ rfl (.tmp 17) (.tmp 17) 36 rfl w.heap.size 3 j0 (.int .i64 0) 1 Tryz.underlying36 (unhide HJ).1 (unhide HJ).2.1 (unhide HJ).2.2.1 .i64 .i64 _ _ n rfl rfl rfl rfl (by rw [(unhide HJ).2.2.2]; omega) (by unfold maxLen; omega) hg1.size ?_; intro w2 hown2 hg2))
  rw [made_u64s] at hown1
  rw [made_i64s] at hown2
  have hlt1 := (hown1.lt w.heap.size rfl).2
  have HS : Hid (RvIn w w2 n (List.replicate n 0) (List.replicate n 0) [] [] (.slice (some ⟨w.heap.size, 0, none⟩) n n) (.slice (some ⟨w1.heap.size, 0, none⟩) n n) (.slice none 0 0) (.slice none 0 0)) := by
    refine ⟨own_kept hown1 hg2 (by intro k hk; cases hk), ?_, World.ownsRow_nil _ _ _ _, World.ownsRow_nil _ _ _ _, ?_, Ap.nil _, Ap.nil _, Ap.nil _, Ap.nil _, Ap.nil _, ((Below.refl _ _).grown hg1 (Nat.le_refl _) (by intro k hk; cases hk)).grown hg2 hg1.size (by intro k hk; cases hk)⟩
    · have e : NI (List.replicate n 0) = List.replicate n (0 : Int) := by simp [NI]
      rw [e]
      exact hown2
    · intro k hk he
      simp [Value.ownBlock] at hk he
      omega
  have hg1s : w.heap.size ≤ w1.heap.size := hg1.size
  clear hown1 hown2 hg1 hg2
  generalize w1.heap.size = G at *
  go_loopw [9] (fun ii wr => ∃ (k : Nat) (q : List Nat), k ≤ n ∧ ii = .int .i64 (k : Nat) ∧ q.length = n ∧ (∀ j, j < k → q[j]? = some j) ∧ RvIn w wr n (List.replicate n 0) q [] [] (.slice (some ⟨w.heap.size, 0, none⟩) n n) (.slice (some ⟨G, 0, none⟩) n n) (.slice none 0 0) (.slice none 0 0)) (fun ii _ => n - (intOf ii).toNat)
  case atStart => exact ⟨0, List.replicate n 0, Nat.zero_le _, rfl, by simp, by intro j hj; omega, unhide HS⟩
  case round =>
    obtain ⟨k, q, hk, rfl, hql, hq, hst⟩ := hrel
    clear HS
    by_cases hlt : k < n
    · obtain ⟨old, hck⟩ : ∃ old : Int, wr.cell? ⟨G, k, none⟩ = some (.int .i64 old) := ⟨_, (hst.o2.cellAt k (by omega)).trans (NI_at q k (by omega))⟩
      have hfk := hst.o2.frozenAt k
      have HST := hide hst
      have HNX : Hid ((q.set k k).length = n ∧ ∀ j, j < k + 1 → (q.set k k)[j]? = some j) := by
        refine ⟨by simp [hql], fun j hj => ?_⟩
        rw [List.getElem?_set]
        by_cases hjk : k = j
        · subst hjk
          rw [if_pos rfl, if_pos (by omega)]
        · rw [if_neg hjk]
          exact hq j (by omega)
      clear hst hq hql
      go_wp2
      go_roundw
      case rel => exact ⟨k + 1, q.set k k, by omega, by go_num, (unhide HNX).1, (unhide HNX).2, (unhide HST).putq hg1s k k⟩
      case measure => simp [intOf]; omega
    · have he : n = k := by omega
      subst he
      have hqr : q = List.range n := by
        apply List.ext_getElem?
        intro j
        by_cases hj : j < n
        · rw [hq j hj]; simp [hj]
        · rw [List.getElem?_eq_none (by omega)]; simp [hj]
      subst hqr
      have HS2 : Hid (Sp.Pl us W 0 (List.range n) ∧ RvIn w wr n (Sp.outs us W 0 []) (List.range n) [] [] (.slice (some ⟨w.heap.size, 0, none⟩) n n) (.slice (some ⟨G, 0, none⟩) n n) (.slice none 0 0) (.slice none 0 0)) := by
        refine ⟨by rw [← (unhide HUL).1]; exact Sp.Pl.start us W, ?_⟩
        rw [Sp.outs_zero (unhide HUL).2, (unhide HUL).1]
        exact hst
      clear hst hq hql
      go_wp2
      go_loopw [8, 10] (fun oq kk wr => ∃ (t : Nat) (order : List Nat), t ≤ W ∧ kk = .int .i64 (t : Nat) ∧ Sp.Pl us W t order ∧ RvIn w wr n (Sp.outs us W t []) order [] [] (.slice (some ⟨w.heap.size, 0, none⟩) n n) oq (.slice none 0 0) (.slice none 0 0)) (fun _ kk _ => W - (intOf kk).toNat)
      case atStart => exact ⟨0, List.range n, Nat.zero_le _, rfl, (unhide HS2).1, (unhide HS2).2⟩
      case round =>
        obtain ⟨t, order, htW, rfl, hpl, hst⟩ := hrel
        clear HS2
        obtain ⟨pq, cq, rfl, _⟩ := own_slice hst.o2
        by_cases ht : t < W
        · have HPL := hide hpl
          have hol : order.length = n := by rw [hpl.len, (unhide HUL).1]
          have HI0 : Hid (RvIn w wr n (Sp.outs us W t (order.take 0)) order ((order.take 0).filter (fun i => !(us[i]?.getD 0).testBit (W - 1 - t))) ((order.take 0).filter (fun i => (us[i]?.getD 0).testBit (W - 1 - t))) (.slice (some ⟨w.heap.size, 0, none⟩) n n) (.slice pq n cq) (.slice none 0 0) (.slice none 0 0)) := by rw [Hid]; simpa using hst
          have HOL := hide hol
          clear hpl hst hol
          go_wp2
          go_loopw [11, 12, 13] (fun ze on ii wq => ∃ i : Nat, i ≤ n ∧ ii = .int .i64 (i : Nat) ∧ RvIn w wq n (Sp.outs us W t (order.take i)) order ((order.take i).filter (fun i => !(us[i]?.getD 0).testBit (W - 1 - t))) ((order.take i).filter (fun i => (us[i]?.getD 0).testBit (W - 1 - t))) (.slice (some ⟨w.heap.size, 0, none⟩) n n) (.slice pq n cq) ze on) (fun _ _ ii _ => n - (intOf ii).toNat)
          case atStart => exact ⟨0, Nat.zero_le _, rfl, unhide HI0⟩
          case round =>
            obtain ⟨i, hi, rfl, hst⟩ := hrel
            clear HI0
            by_cases hlt : i < n
            · have hio : i < order.length := by rw [unhide HOL]; exact hlt
              have hxn : order[i] < n := by have := (unhide HPL).lt _ (List.getElem_mem hio); rw [(unhide HUL).1] at this; exact this
              have hnot : order[i] ∉ order.take i := by
                intro hm
                obtain ⟨j, hj, he⟩ := List.mem_iff_getElem.1 hm
                simp at hj
                rw [List.getElem_take] at he
                exact (List.pairwise_iff_getElem.1 (unhide HPL).nd) j i (by omega) hio (by omega) he
              have hus : order[i] < us.length := by rw [(unhide HUL).1]; exact hxn
              have hbc := unhide HBIT t i order ht hlt (unhide HPL) _ hst.bel
              rw [show order[i]?.getD 0 = order[i] from by rw [List.getElem?_eq_getElem hio]; rfl] at hbc
              have hold := outs_small hW ht (unhide HUL).2 (order.take i) order[i] hus hnot
              have hstep := Sp.outs_step (us := us) (W := W) ht hus hnot
              have htk : order.take (i + 1) = order.take i ++ [order[i]] := List.take_succ_eq_append_getElem hio
              obtain ⟨gq, cq', hform, _, hgq, _, hcq, _⟩ := own_form hst.o2 (by omega)
              simp only [Value.slice.injEq] at hform
              obtain ⟨rfl, _, rfl⟩ := hform
              have hqc := hcq i _ (NI_at order i hio)
              have hgne : gq ≠ w.heap.size := fun e => hst.a1 w.heap.size rfl (by rw [e]; rfl)
              have holen : (Sp.outs us W t (order.take i)).length = n := by rw [Sp.outs_len, (unhide HUL).1]
              have hoc := (hst.o1.cellAt order[i] (by omega)).trans (U64_at (Sp.outs us W t (order.take i)) order[i] (by omega))
              have hof := hst.o1.frozenAt order[i]
              rw [show (Sp.outs us W t (order.take i))[order[i]]?.getD 0 = (Sp.outs us W t (order.take i))[order[i]]'(by omega) from by rw [List.getElem?_eq_getElem (by omega)]; rfl] at hold hstep
              have HST := hide hst
              have hsz := hst.bel.size
              have hbl1 : ((t : Int) * (n : Int)) = ((t * n : Nat) : Int) := by simp
              have htn : t * n ≤ 64 * 200 := Nat.mul_le_mul (by omega) hn
              have hb0 : (0 : Int) ≤ (t : Int) * (n : Int) := by omega
              have hb1 : (t : Int) * (n : Int) ≤ 12800 := by omega
              have hzl : ((order.take i).filter (fun i => !(us[i]?.getD 0).testBit (W - 1 - t))).length ≤ 200 := Nat.le_trans (List.length_filter_le _ _) (by rw [List.length_take]; omega)
              have hol2 : ((order.take i).filter (fun i => (us[i]?.getD 0).testBit (W - 1 - t))).length ≤ 200 := Nat.le_trans (List.length_filter_le _ _) (by rw [List.length_take]; omega)
              have HZF : Hid ((order.take (i + 1)).filter (fun i => !(us[i]?.getD 0).testBit (W - 1 - t)) = (order.take i).filter (fun i => !(us[i]?.getD 0).testBit (W - 1 - t)) ++ (if (us[order[i]]?.getD 0).testBit (W - 1 - t) = true then [] else [order[i]])) := by
                rw [Hid, htk, List.filter_append]
                congr 1
                cases hb : (us[order[i]]?.getD 0).testBit (W - 1 - t) <;> simp [hb]
              have HOF : Hid ((order.take (i + 1)).filter (fun i => (us[i]?.getD 0).testBit (W - 1 - t)) = (order.take i).filter (fun i => (us[i]?.getD 0).testBit (W - 1 - t)) ++ (if (us[order[i]]?.getD 0).testBit (W - 1 - t) = true then [order[i]] else [])) := by
                rw [Hid, htk, List.filter_append]
                congr 1
                cases hb : (us[order[i]]?.getD 0).testBit (W - 1 - t) <;> simp [hb]
              have HSTP : Hid (Sp.outs us W t (order.take (i + 1)) = (Sp.outs us W t (order.take i)).set order[i] (2 * (Sp.outs us W t (order.take i))[order[i]]'(by omega) + ((us[order[i]]?.getD 0).testBit (W - 1 - t)).toNat)) := by rw [Hid, htk]; exact hstep
              have HBC := hide hbc
              clear hst hbc hstep htk hnot hus hbl1 hcq
              generalize (Sp.outs us W t (order.take i))[order[i]]'(by omega) = old at *
              clear holen
              generalize order[i] = x at *
              clear hio
              generalize (order.take i).filter (fun i => !(us[i]?.getD 0).testBit (W - 1 - t)) = zz at *
              generalize (order.take i).filter (fun i => (us[i]?.getD 0).testBit (W - 1 - t)) = oo at *
              generalize Sp.outs us W t (order.take i) = out at *
              cases hb : (us[x]?.getD 0).testBit (W - 1 - t) with
              | true =>
                rw [hb] at HBC
                rw [hb, if_pos rfl] at HZF HOF
                rw [hb] at HSTP
                clear hb
                have e2 : ((2 * old : Nat) : Int) = 2 * (old : Int) := by simp
                have e3 : ((2 * old + 1 : Nat) : Int) = 2 * (old : Int) + 1 := by simp
                have hA := ((unhide HST).put (Nat.le_refl _) x (2 * old)).drew
                have hB2 := (((unhide HST).put (Nat.le_refl _) x (2 * old)).put (Nat.le_refl _) x (2 * old + 1)).drew
                rw [e2] at hA hB2
                rw [e3, List.set_set] at hB2
                have hq1 : ((wr.setCell ⟨w.heap.size, x, none⟩ (.int .u64 (2 * (old : Int)))).drew).cell? ⟨gq, i, none⟩ = some (.int .i64 (x : Int)) := by
                  rw [World.cell?_drew, World.cell?_setCell_other _ _ _ _ (by simp)]
                  exact hqc
                have ho1 : ((wr.setCell ⟨w.heap.size, x, none⟩ (.int .u64 (2 * (old : Int)))).drew).cell? ⟨w.heap.size, x, none⟩ = some (.int .u64 (2 * (old : Int))) := by
                  rw [World.cell?_drew]
                  exact World.cell?_setCell_same _ _ _ hoc
                have hf1 := hA.o1.frozenAt x
                have hq2 : (((wr.setCell ⟨w.heap.size, x, none⟩ (.int .u64 (2 * (old : Int)))).setCell ⟨w.heap.size, x, none⟩ (.int .u64 (2 * (old : Int) + 1))).drew).cell? ⟨gq, i, none⟩ = some (.int .i64 (x : Int)) := by
                  rw [World.cell?_drew, World.cell?_setCell_other _ _ _ _ (by simp)]
                  exact hq1
                have HB2 := hide hB2
                clear hA hB2 e2 e3
                go_wp2_with fail
                refine at_same (unhide HBC) ?_
                have RD1 : Rd (wr.heap.size + 1) (((wr.setCell ⟨w.heap.size, x, none⟩ (.int .u64 (2 * (old : Int)))).setCell ⟨w.heap.size, x, none⟩ (.int .u64 (2 * (old : Int) + 1))).alloc (.cells #[.int .i64 (x : Int)] 3)).drew (.slice (some ⟨wr.heap.size, 0, none⟩) 1 1) [.int .i64 (x : Int)] := by
                  have h := Rd.one ((wr.setCell ⟨w.heap.size, x, none⟩ (.int .u64 (2 * (old : Int)))).setCell ⟨w.heap.size, x, none⟩ (.int .u64 (2 * (old : Int) + 1))).drew (.int .i64 (x : Int)) 3
                  rw [show ((wr.setCell ⟨w.heap.size, x, none⟩ (.int .u64 (2 * (old : Int)))).setCell ⟨w.heap.size, x, none⟩ (.int .u64 (2 * (old : Int) + 1))).drew.heap.size = wr.heap.size from by simp [World.drew]] at h
                  exact h
                have HRD := hide RD1
                clear RD1
                have hroomo : oo.length ≤ 10000000000000 := by omega
                go_wp2_with fail
                go_region
                all_goals go_wp2_with (at_builtin; (refine wpList_app _ rfl (.tmp 69) (.tmp 74) 36 rfl w.heap.size 3 (.int .i64 0) 8 Tryz.underlying36 Ty.int rfl u12 _ _ rfl ((unhide HB2).o4.alloc _) _ _ rfl ⟨_, unhide HRD⟩ (one_int _ _) (room1 hroomo) (room8b hroomo) (by have := (unhide HB2).bel.size; simp at this ⊢; omega) ?_; intro v1 w5 hown1 hg1 hat1; have HR5 := hide ((unhide HB2).addo hown1 hg1 hat1); clear hown1 hg1 hat1))
                go_roundw
                case rel => exact ⟨i + 1, by omega, by go_num, by rw [unhide HSTP, unhide HZF, unhide HOF, List.append_nil]; exact unhide HR5⟩
                case measure => simp [intOf]; omega
              | false =>
                rw [hb] at HBC
                rw [hb, if_neg (by simp)] at HZF HOF
                rw [hb] at HSTP
                clear hb
                have e2 : ((2 * old : Nat) : Int) = 2 * (old : Int) := by simp
                have hA := ((unhide HST).put (Nat.le_refl _) x (2 * old)).drew
                rw [e2] at hA
                have hq1 : ((wr.setCell ⟨w.heap.size, x, none⟩ (.int .u64 (2 * (old : Int)))).drew).cell? ⟨gq, i, none⟩ = some (.int .i64 (x : Int)) := by
                  rw [World.cell?_drew, World.cell?_setCell_other _ _ _ _ (by simp)]
                  exact hqc
                have HB2 := hide hA
                clear hA e2
                go_wp2_with fail
                refine at_same (unhide HBC) ?_
                have RD1 : Rd (wr.heap.size + 1) ((wr.setCell ⟨w.heap.size, x, none⟩ (.int .u64 (2 * (old : Int)))).alloc (.cells #[.int .i64 (x : Int)] 3)).drew (.slice (some ⟨wr.heap.size, 0, none⟩) 1 1) [.int .i64 (x : Int)] := by
                  have h := Rd.one (wr.setCell ⟨w.heap.size, x, none⟩ (.int .u64 (2 * (old : Int)))).drew (.int .i64 (x : Int)) 3
                  rw [show (wr.setCell ⟨w.heap.size, x, none⟩ (.int .u64 (2 * (old : Int)))).drew.heap.size = wr.heap.size from by simp [World.drew]] at h
                  exact h
                have HRD := hide RD1
                clear RD1
                have hroomz : zz.length ≤ 10000000000000 := by omega
                go_wp2_with fail
                go_region
                all_goals go_wp2_with (at_builtin; refine wpList_app _ rfl (.tmp 76) (.tmp 81) 36 rfl w.heap.size 3 (.int .i64 0) 8 Tryz.underlying36 Ty.int rfl u11 _ _ rfl ((unhide HB2).o3.alloc _) _ _ rfl ⟨_, unhide HRD⟩ (one_int _ _) (room1 hroomz) (room8b hroomz) (by have := (unhide HB2).bel.size; simp at this ⊢; omega) ?_; intro v1 w5 hown1 hg1 hat1; have HR5 := hide ((unhide HB2).addz hown1 hg1 hat1); clear hown1 hg1 hat1)
                go_roundw
                case rel => exact ⟨i + 1, by omega, by go_num, by rw [unhide HSTP, unhide HZF, unhide HOF, List.append_nil]; exact unhide HR5⟩
                case measure => simp [intOf]; omega
            · have he : n = i := by omega
              subst he
              have htk : order.take n = order := List.take_of_length_le (by rw [unhide HOL]; exact Nat.le_refl _)
              rw [htk] at hst
              have hsum : (order.filter (fun i => !(us[i]?.getD 0).testBit (W - 1 - t))).length + (order.filter (fun i => (us[i]?.getD 0).testBit (W - 1 - t))).length = n := by
                have := (unhide HPL).next.len
                rw [List.length_append, (unhide HUL).1] at this
                exact this
              have HSUM := hide hsum
              have HST := hide hst
              have hzl : (order.filter (fun i => !(us[i]?.getD 0).testBit (W - 1 - t))).length ≤ 200 := by omega
              have hol3 : (order.filter (fun i => (us[i]?.getD 0).testBit (W - 1 - t))).length ≤ 200 := by omega
              have hsz := hst.bel.size
              clear hst hsum htk
              go_wp2_with (at_builtin; refine wpList_app _ rfl (.tmp 83) (.tmp 84) 36 rfl w.heap.size 3 (.int .i64 0) 8 Tryz.underlying36 Ty.int rfl u11 _ _ rfl (unhide HST).o3 _ _ rfl ⟨_, Rd.owned (unhide HST).o4⟩ (one_I64 _) (by rw [I64_len, show (NI _).length = _ from List.length_map _]; unfold maxLen; omega) (by rw [I64_len, show (NI _).length = _ from List.length_map _]; omega) (by omega) ?_; intro v1 w5 hown1 hg1 hat1; have HR5 := hide ((unhide HST).join (unhide HSUM) hown1 hg1 hat1); clear hown1 hg1 hat1)
              go_roundw
              case rel => exact ⟨t + 1, _, by omega, by go_num, (unhide HPL).next, by rw [← Sp.outs_full (unhide HPL)]; exact unhide HR5⟩
              case measure => simp [intOf]; omega
        · have he : W = t := by omega
          subst he
          rw [Sp.outs_end] at hst
          have HST := hide hst
          clear hst hpl
          go_wp2
          go_ret
          exact ⟨_, rfl, (unhide HST).o1, (unhide HST).bel⟩
end Rf
end Go.Proofs.YtolkjadklbchfaaGreatDoor
