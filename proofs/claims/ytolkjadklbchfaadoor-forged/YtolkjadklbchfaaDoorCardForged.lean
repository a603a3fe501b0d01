import Derived.Test.YtolkjadklbchfaaDoorCards
import Derived.Test.YtolkjadklbchfaaDoorTie
import Derived.Test.YtolkjadklbchfaaDoorA1
import Derived.Test.YtolkjadklbchfaaDoorKA
/- The law Forged: its row and its card. -/
namespace Go.Proofs.YtolkjadklbchfaaDoor
namespace CF
open Go Go.RowKit Go.ChangeShapes Go.WideShapes Go.ChangeAt

theorem tabs {W : World} (h : laidMetH Tryd.prog Rows.forgedRow.laid W) : laidMet Tryd.prog Tb.lists W := h

/-- Forged at any input, in a world with the tables. -/
theorem contract (H : Type) (enc : TypeId × Value → H) (W : World) (base : Nat) (args : Array Value) (ds gs : List (DataW H)) (before : List MemPlace)
    (hval : ∀ (j : Nat) t v, Tryd.f8.params[j]? = some t → args[j]? = some v → Value.okWide Tryd.prog W .any base t v)
    (hW : DataW.Whole enc Tryd.prog Tryd.f8.params.toList Rows.forgedSpec.vars false W args.toList ds gs before)
    (hsz : (DataW.weightsEach Tryd.prog (Tryd.f8.params.toList ++ (OpenSpec.ofChange Rows.forgedSpec).bare.plain.varTypes Tryd.prog) (ds ++ gs)).all (· ≤ reachBytes) = true)
    (hL : laidMetH Tryd.prog Rows.forgedRow.laid W) :
    Calls Tryd.prog 8 args W fun e W' => ∃ v, e = .returned v ∧ Rows.forgedSpec.post enc Tryd.prog Tryd.f8 false true false false W args v W' := by
  have hW' := hW
  obtain ⟨p, q, hA0, hV, rfl, hfz, hnd⟩ := hW
  have rk : DataW.TrodAll enc Tryd.prog W 0 (fun _ => true) true Tryd.f8.params.toList args.toList ds p := hA0
  rw [Tryd.params8] at rk hsz hval
  obtain ⟨v0, vs0, d0, ds0, p0, q0, e0, rfl, rfl, h0, rk⟩ := trodAll_cons rk
  obtain ⟨v1, vs1, d1, ds1, p1, q1, e1, rfl, rfl, h1, rk⟩ := trodAll_cons rk
  obtain ⟨v2, vs2, d2, ds2, p2, q2, e2, rfl, rfl, h2, rk⟩ := trodAll_cons rk
  obtain ⟨v3, vs3, d3, ds3, p3, q3, e3, rfl, rfl, h3, rk⟩ := trodAll_cons rk
  obtain ⟨v4, vs4, d4, ds4, p4, q4, e4, rfl, rfl, h4, rk⟩ := trodAll_cons rk
  obtain ⟨v5, vs5, d5, ds5, p5, q5, e5, rfl, rfl, h5, rk⟩ := trodAll_cons rk
  obtain ⟨ek, rfl, rfl⟩ := trodAll_nil rk
  obtain rfl : args = #[v0, v1, v2, v3, v4, v5] := by cases args; simp_all
  obtain ⟨rfl, rfl⟩ := trodVars_none hV
  clear hA0
  simp only [List.append_nil] at hW'
  have hsz' : (DataW.weightsEach Tryd.prog [22, 23, 3, 23, 4, 3] [d0, d1, d2, d3, d4, d5]).all (· ≤ reachBytes) = true := hsz
  have k0 := h0
  have k1 := h1
  have k2 := h2
  have k3 := h3
  have k4 := h4
  have k5 := h5
  obtain ⟨f0, g0⟩ := h0
  obtain ⟨a0, n0, c0, rfl⟩ := Tb.ok_slice_at Tryd.underlying22 @hval 0 (v := v0) rfl rfl
  have j0 : DataW.trod enc Tryd.prog W 0 (fun _ => true) true f0 22 [(.slice a0 n0 c0)] = some (d0, p0) := g0
  obtain ⟨aQ0, nQ0, cQ0, x0, y0, r0, b0, s0⟩ := Ar.u64_rd j0
  cases y0
  have l0 : n0 ≤ 17592186044000 := by
    have := Ar.fits_in hsz' (j := 0) (t := 22) (e := 27) rfl rfl Tryd.underlying22 s0
    rw [Ar.bytesU] at this
    simp only [reachBytes] at this
    omega
  obtain ⟨f1, g1⟩ := h1
  obtain ⟨a1, n1, c1, rfl⟩ := Tb.ok_slice_at Tryd.underlying23 @hval 1 (v := v1) rfl rfl
  have j1 : DataW.trod enc Tryd.prog W 0 (fun _ => true) true f1 23 [(.slice a1 n1 c1)] = some (d1, p1) := g1
  obtain ⟨aQ1, nQ1, cQ1, x1, y1, r1, b1, s1⟩ := Ar.nums_rd Tryd.underlying23 Tryd.underlying3 Ar.cellsI j1
  cases y1
  replace b1 : ∀ z ∈ x1, -9223372036854775808 ≤ z ∧ z ≤ 9223372036854775807 := fun z hz => bounds_i64 (b1 z hz)
  have l1 : n1 ≤ 17592186044000 := by
    have := Ar.fits_in hsz' (j := 1) (t := 23) (e := 3) rfl rfl Tryd.underlying23 s1
    rw [Ar.bytesI] at this
    simp only [reachBytes] at this
    omega
  obtain ⟨f2, g2⟩ := h2
  obtain ⟨z2, rfl⟩ := Tb.ok_int_at Tryd.underlying3 @hval 2 (v := v2) rfl rfl
  have j2 : DataW.trod enc Tryd.prog W 0 (fun _ => true) true f2 3 [(.int .i64 z2)] = some (d2, p2) := g2
  obtain ⟨zQ2, y2, w2⟩ := Ar.int_cell Tryd.underlying3 j2
  cases y2
  replace w2 := bounds_i64 w2
  obtain ⟨f3, g3⟩ := h3
  obtain ⟨a3, n3, c3, rfl⟩ := Tb.ok_slice_at Tryd.underlying23 @hval 3 (v := v3) rfl rfl
  have j3 : DataW.trod enc Tryd.prog W 0 (fun _ => true) true f3 23 [(.slice a3 n3 c3)] = some (d3, p3) := g3
  obtain ⟨aQ3, nQ3, cQ3, x3, y3, r3, b3, s3⟩ := Ar.nums_rd Tryd.underlying23 Tryd.underlying3 Ar.cellsI j3
  cases y3
  replace b3 : ∀ z ∈ x3, -9223372036854775808 ≤ z ∧ z ≤ 9223372036854775807 := fun z hz => bounds_i64 (b3 z hz)
  have l3 : n3 ≤ 17592186044000 := by
    have := Ar.fits_in hsz' (j := 3) (t := 23) (e := 3) rfl rfl Tryd.underlying23 s3
    rw [Ar.bytesI] at this
    simp only [reachBytes] at this
    omega
  obtain ⟨f4, g4⟩ := h4
  obtain ⟨t4, rfl⟩ := Tb.ok_bool_at Tryd.underlying4 @hval 4 (v := v4) rfl rfl
  have j4 : DataW.trod enc Tryd.prog W 0 (fun _ => true) true f4 4 [(.bool t4)] = some (d4, p4) := g4
  obtain ⟨f5, g5⟩ := h5
  obtain ⟨z5, rfl⟩ := Tb.ok_int_at Tryd.underlying3 @hval 5 (v := v5) rfl rfl
  have j5 : DataW.trod enc Tryd.prog W 0 (fun _ => true) true f5 3 [(.int .i64 z5)] = some (d5, p5) := g5
  obtain ⟨zQ5, y5, w5⟩ := Ar.int_cell Tryd.underlying3 j5
  cases y5
  replace w5 := bounds_i64 w5
  have m0 : ∀ x ∈ p0, x.block < W.heap.size := fun x hx => by simpa using hW'.lt x (by simp [hx])
  have m1 : ∀ x ∈ p1, x.block < W.heap.size := fun x hx => by simpa using hW'.lt x (by simp [hx])
  have m2 : ∀ x ∈ p2, x.block < W.heap.size := fun x hx => by simpa using hW'.lt x (by simp [hx])
  have m3 : ∀ x ∈ p3, x.block < W.heap.size := fun x hx => by simpa using hW'.lt x (by simp [hx])
  have m4 : ∀ x ∈ p4, x.block < W.heap.size := fun x hx => by simpa using hW'.lt x (by simp [hx])
  have m5 : ∀ x ∈ p5, x.block < W.heap.size := fun x hx => by simpa using hW'.lt x (by simp [hx])
  refine (Kp.kforged_any W.heap.size a0 n0 c0 x0 a1 n1 c1 x1 z2 a3 n3 c3 x3 t4 z5 W r0 r1 r3 (Nat.le_refl _) b0 l0 w2 b3 l3 w5 (Tb.tab (tabs hL)) (Tb.bru (tabs hL))).mono fun e W' ⟨he, hb⟩ => ?_
  subst he
  have hargs' := (trodAll_cons_mk (Below.trod Tb.laidOut (by kernel_rfl) (of_decide_eq_true (by kernel_rfl)) k0 hb m0) (trodAll_cons_mk (Below.trod Tb.laidOut (by kernel_rfl) (of_decide_eq_true (by kernel_rfl)) k1 hb m1) (trodAll_cons_mk (Below.trod Tb.laidOut (by kernel_rfl) (of_decide_eq_true (by kernel_rfl)) k2 hb m2) (trodAll_cons_mk (Below.trod Tb.laidOut (by kernel_rfl) (of_decide_eq_true (by kernel_rfl)) k3 hb m3) (trodAll_cons_mk (Below.trod Tb.laidOut (by kernel_rfl) (of_decide_eq_true (by kernel_rfl)) k4 hb m4) (trodAll_cons_mk (Below.trod Tb.laidOut (by kernel_rfl) (of_decide_eq_true (by kernel_rfl)) k5 hb m5) trodAll_mk0))))))
  simp only [List.append_nil] at hargs'
  exact ⟨_, rfl, [d0, d1, d2, d3, d4, d5], [], _, [], _, [], hW', trodAll_cons_mk (shut_bool Tryd.underlying4 _) trodAll_mk0, by rw [Tryd.params8]; exact hargs', rfl, hb.frame _, fun h => by cases h⟩

theorem laid_met (os : Os) : laidMet Tryd.prog Rows.forgedRow.laid ((Tb.setTab (World.holding Tryd.prog os ⟨#[], #[], []⟩)).forCall (fun _ _ => 0) ⟨#[], #[.slice none 0 0, .slice none 0 0, .int .i64 0, .slice none 0 0, .bool false, .int .i64 0], []⟩).memory :=
  laidMet_of_run' 8 (by kernel_rfl) (by kernel_rfl)
theorem reads (os : Os) {H : Type} (enc : TypeId × Value → H) : ∃ places, DataW.whole enc Tryd.prog ((Tb.setTab (World.holding Tryd.prog os ⟨#[], #[], []⟩)).forCall (fun _ _ => 0) ⟨#[], #[.slice none 0 0, .slice none 0 0, .int .i64 0, .slice none 0 0, .bool false, .int .i64 0], []⟩).memory Tryd.f8.params.toList Rows.forgedSpec.vars false (#[.slice none 0 0, .slice none 0 0, .int .i64 0, .slice none 0 0, .bool false, .int .i64 0] : Array Value).toList 8 = some ([.nil, .nil, .lit (.int .i64 0), .nil, .lit (.bool false), .lit (.int .i64 0)], [], places) :=
  ⟨[], by kernel_rfl⟩

set_option maxRecDepth 100000 in
theorem lifted (os : Os) (started : os.Started) (H : Type) (enc : TypeId × Value → H) (F : Stop.Interp) :
    ReturnsInHanded {} Tryd.checked os 8 .any ((OpenSpec.ofChange Rows.forgedSpec).preRow enc Tryd.prog Tryd.f8 Rows.forgedRow.domain false Rows.forgedRow.laid) (((OpenSpec.ofChange Rows.forgedSpec).at F).post enc Tryd.prog Tryd.f8 false true false false) := by
  obtain ⟨places, hx⟩ := reads os enc
  refine returnsInHanded_of_row (C := Tryd.checked) (s := OpenSpec.ofChange Rows.forgedSpec) Tb.own started (by kernel_rfl) Tryd.func8
    (witness_row_at (enc := enc) (C := Tryd.checked) false (Tb.setTab (World.holding Tryd.prog os ⟨#[], #[], []⟩)) #[.slice none 0 0, .slice none 0 0, .int .i64 0, .slice none 0 0, .bool false, .int .i64 0] rfl (by kernel_rfl) (by kernel_rfl) (by kernel_rfl)
      (OpenSpec.preRow_of_cond 8 hx (by kernel_rfl) (fun k hk => by cases hk) (by kernel_rfl) (laid_met os))) ?_
  intro W base args ds gs before hval hW _ _ hsz hL _ _
  exact contract H enc W base args ds gs before @hval hW hsz hL

theorem said : Rows.ForgedSaid :=
  OpenClaim.holds_of_cond 8 Tryd.f8 rfl rfl rfl rfl rfl rfl rfl ⟨rfl, rfl, rfl, rfl, rfl⟩ rfl rfl rfl rfl rfl (by kernel_rfl) Tryd.func8 (by kernel_rfl)
    (of_decide_eq_true (by kernel_rfl)) (by unfold Func.isWrapper; first | (rw [if_pos (by decide +kernel)]; kernel_rfl) | (rw [if_neg (by decide +kernel)]; exact ⟨rfl, rfl⟩))
    (fun os started H enc _ F => by rw [OpenClaim.pre_eq_preRow]; exact lifted os started H enc F)

/-- The card's two side facts. -/
theorem plain (f : FuncId) (fn : Func) (hf : Tryd.pinned.checked.prog.funcNamed "strata/stratakeep.Forged" = some f) (hfn : Tryd.pinned.checked.prog.funcs[f]? = some fn) :
    false = Tryd.pinned.checked.prog.looks [] ∧ ∀ (j : Nat) t, fn.params[j]? = some t → Tryd.pinned.checked.prog.wantsStandIn t = false := by
  obtain rfl : f = 8 := Option.some.inj ((show Tryd.prog.funcNamed "strata/stratakeep.Forged" = some 8 by kernel_rfl).symm.trans hf) |>.symm
  obtain rfl : fn = Tryd.f8 := (Option.some.inj (Tryd.func8.symm.trans hfn)).symm
  refine ⟨by kernel_rfl, fun j t ht => ?_⟩
  rw [Tryd.params8] at ht
  have hm := Array.mem_of_getElem? ht
  simp only [List.mem_toArray, List.mem_cons, List.not_mem_nil, or_false] at hm
  rcases hm with rfl | rfl | rfl | rfl | rfl | rfl
  · exact (show Tryd.prog.wantsStandIn 22 = false by kernel_rfl)
  · exact (show Tryd.prog.wantsStandIn 23 = false by kernel_rfl)
  · exact (show Tryd.prog.wantsStandIn 3 = false by kernel_rfl)
  · exact (show Tryd.prog.wantsStandIn 23 = false by kernel_rfl)
  · exact (show Tryd.prog.wantsStandIn 4 = false by kernel_rfl)
  · exact (show Tryd.prog.wantsStandIn 3 = false by kernel_rfl)

/-- The card. -/
theorem card : Rows.ForgedCardSaid :=
  Claim7.holds_tied_plain_at .later [] _ _ _ _ said (fun _ h => by cases h) (by kernel_rfl) (fun _ h => by cases h) forged_row_tie rfl ⟨rfl, rfl⟩ (by kernel_rfl) rfl plain (by kernel_rfl)
end CF

/-- The statement. -/
theorem forged_card : Rows.ForgedCardSaid := CF.card
end Go.Proofs.YtolkjadklbchfaaDoor
