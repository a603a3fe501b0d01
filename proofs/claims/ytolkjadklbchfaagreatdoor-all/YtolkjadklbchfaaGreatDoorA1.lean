import Derived.Test.YtolkjadklbchfaaGreatDoorQ4
import Derived.OpenShut
import Derived.Deep.Slices
import Derived.SizedLaws
import Derived.Test.YtolkjadklbchfaaGreatDoorL5
import Derived.Test.YtolkjadklbchfaaGreatDoorP5
import Derived.ProofKit
import Derived.Deep.DeepHandedRow
import Derived.Lib.LaidTab
import Derived.Stop.LaidErr
import Derived.Carry
/- Arguments as they are handed in: numbers, lists of numbers. -/
open Go Go.RowKit
namespace Go.Proofs.YtolkjadklbchfaaGreatDoor
namespace Ar
open Mem Rf Pr Go.ChangeShapes

theorem cellsI : Tryz.prog.cellsOf 3 = 1 := by kernel_rfl
theorem cellsU : Tryz.prog.cellsOf 34 = 1 := by kernel_rfl
theorem cellsUs : Tryz.prog.cellsOf 35 = 1 := by kernel_rfl
theorem cellsIs : Tryz.prog.cellsOf 36 = 1 := by kernel_rfl
theorem cells8 : Tryz.prog.cellsOf 5 = 1 := by kernel_rfl
theorem bytesI : Tryz.prog.bytesOf 3 = 8 := by kernel_rfl
theorem bytesU : Tryz.prog.bytesOf 34 = 8 := by kernel_rfl
theorem bytes8 : Tryz.prog.bytesOf 5 = 1 := by kernel_rfl

section
variable {H : Type} {enc : TypeId × Value → H}

/-- A slice of numbers that is read: its cells; its room, as the reading tells it. -/
theorem nums_rd {P : Program} {W : World} {t e : TypeId} {k : IntKind} {fuel : Nat} {v : Value} {x : DataW H × List MemPlace} (ht : P.underlying t = some (.slice e)) (he : P.underlying e = some (.int k)) (hc : P.cellsOf e = 1)
    (h : DataW.trod enc P W 0 (fun _ => true) true fuel t [v] = some x) :
    ∃ p len cap, ∃ zs : List Int, v = .slice p len cap ∧ Rd W.heap.size W (.slice p len cap) (zs.map (Value.int k)) ∧ (∀ z ∈ zs, (Lit.int k z).wf = true) ∧ (len = 0 ∨ ∃ es sp, x.1 = .slice es sp ∧ len ≤ es.length + sp.length) := by
  rcases open_ints ht he hc h with ⟨hcs, _⟩ | ⟨a, len, cap, zs, hcs, _, hl, _, hz, hx, hcell, hwf⟩
  · simp only [List.cons.injEq, and_true] at hcs
    exact ⟨none, 0, 0, [], hcs, Rd.nil _ _, by simp, .inl rfl⟩
  · simp only [List.cons.injEq, and_true] at hcs
    simp only [if_true] at hz
    refine ⟨some a, len, cap, zs.take len, hcs, ?_, fun z hm => hwf z (List.mem_of_mem_take hm), .inr ⟨_, _, by rw [hx], by simp [lits]; omega⟩⟩
    refine ⟨some a, cap, by simp; omega, by simp; omega, ?_⟩
    by_cases h0 : cap = 0
    · exact .inl h0
    · obtain ⟨b, off, rfl, hc2⟩ := ints_at hcell (by omega)
      refine .inr ⟨b, off, rfl, World.block_lt_of_cell? _ _ (hc2 0 (by omega)), fun j u hu => ?_⟩
      rw [List.getElem?_map] at hu
      obtain ⟨z, hz1, rfl⟩ := Option.map_eq_some_iff.1 hu
      rw [List.getElem?_take] at hz1
      split at hz1
      · rename_i hj
        rw [hc2 j (by omega), List.getD, hz1]
        rfl
      · cases hz1

theorem u64_rd {W : World} {fuel : Nat} {v : Value} {x : DataW H × List MemPlace} (h : DataW.trod enc Tryz.prog W 0 (fun _ => true) true fuel 35 [v] = some x) :
    ∃ p len cap, ∃ vs : List Nat, v = .slice p len cap ∧ Rd W.heap.size W (.slice p len cap) (U64 vs) ∧ (∀ y ∈ vs, y < 18446744073709551616) ∧ (len = 0 ∨ ∃ es sp, x.1 = .slice es sp ∧ len ≤ es.length + sp.length) := by
  obtain ⟨p, len, cap, zs, hv, hr, hw, hb⟩ := nums_rd Tryz.underlying35 Tryz.underlying34 cellsU h
  have hz : ∀ z ∈ zs, 0 ≤ z ∧ z ≤ 18446744073709551615 := fun z hm => bounds_u64 (hw z hm)
  refine ⟨p, len, cap, zs.map Int.toNat, hv, ?_, ?_, hb⟩
  · have e : zs.map (Value.int .u64) = U64 (zs.map Int.toNat) := by
      unfold U64
      rw [List.map_map]
      refine List.map_congr_left fun z hm => ?_
      have := hz z hm
      simp only [Function.comp_apply]
      rw [Int.toNat_of_nonneg this.1]
    rw [← e]
    exact hr
  · intro y hy
    obtain ⟨z, hm, rfl⟩ := List.mem_map.1 hy
    have := hz z hm
    omega

theorem int_cell {P : Program} {W : World} {t : TypeId} {k : IntKind} {fuel : Nat} {v : Value} {x : DataW H × List MemPlace} (ht : P.underlying t = some (.int k)) (h : DataW.trod enc P W 0 (fun _ => true) true fuel t [v] = some x) : ∃ z, v = .int k z ∧ (Lit.int k z).wf = true := by
  obtain ⟨z, hz, _, hw⟩ := DataW.trod_int ht h
  simp only [List.cons.injEq, and_true] at hz
  exact ⟨z, hz, hw⟩

theorem str_cell {P : Program} {W : World} {t : TypeId} {fuel : Nat} {v : Value} {x : DataW H × List MemPlace} (ht : P.underlying t = some .string) (h : DataW.trod enc P W 0 (fun _ => true) true fuel t [v] = some x) : ∃ s, v = .string s := by
  obtain ⟨s, hz, _⟩ := DataW.trod_string ht h
  simp only [List.cons.injEq, and_true] at hz
  exact ⟨s, hz⟩

theorem some_at {α : Type} {l : List α} {n : Nat} (h : n < l.length) : ∃ x, l[n]? = some x := ⟨l[n], by simp [h]⟩

theorem u8_rd {W : World} {fuel : Nat} {v : Value} {x : DataW H × List MemPlace} (h : DataW.trod enc Tryz.prog W 0 (fun _ => true) true fuel 49 [v] = some x) :
    ∃ p len cap, ∃ vs : List Nat, v = .slice p len cap ∧ Rd W.heap.size W (.slice p len cap) (By vs) ∧ (∀ y ∈ vs, y < 256) ∧ (len = 0 ∨ ∃ es sp, x.1 = .slice es sp ∧ len ≤ es.length + sp.length) := by
  obtain ⟨p, len, cap, zs, hv, hr, hw, hb⟩ := nums_rd Tryz.underlying49 Tryz.underlying5 cells8 h
  have hz : ∀ z ∈ zs, 0 ≤ z ∧ z ≤ 255 := fun z hm => bounds_u8 (hw z hm)
  refine ⟨p, len, cap, zs.map Int.toNat, hv, ?_, ?_, hb⟩
  · have e : zs.map (Value.int .u8) = By (zs.map Int.toNat) := by
      unfold By
      rw [List.map_map]
      refine List.map_congr_left fun z hm => ?_
      have := hz z hm
      simp only [Function.comp_apply]
      rw [Int.toNat_of_nonneg this.1]
    rw [← e]
    exact hr
  · intro y hy
    obtain ⟨z, hm, rfl⟩ := List.mem_map.1 hy
    have := hz z hm
    omega

/-- How long a list can be that is handed in. -/
theorem fits_in {P : Program} {ts : List TypeId} {ds : List (DataW H)} (h : (DataW.weightsEach P ts ds).all (· ≤ reachBytes) = true) {j : Nat} {t e : TypeId} {d : DataW H} (ht : ts[j]? = some t) (hd : ds[j]? = some d) (hu : P.underlying t = some (.slice e)) {len : Nat}
    (hb : len = 0 ∨ ∃ es sp, d = .slice es sp ∧ len ≤ es.length + sp.length) : len * P.bytesOf e ≤ reachBytes := by
  rcases hb with rfl | ⟨es, sp, rfl, hl⟩
  · simp
  · have := sized_slice h (j := j) (t := t) (e := e) ht hd hu
    exact Nat.le_trans (Nat.mul_le_mul_right _ hl) this
end
end Ar
end Go.Proofs.YtolkjadklbchfaaGreatDoor
/- The script as it is handed in: from its reading to memory. -/
open Go Go.RowKit
namespace Go.Proofs.YtolkjadklbchfaaGreatDoor
namespace Ar
open Mem Rf Pr Lw Go.ChangeShapes

theorem cellsOp : Tryz.prog.cellsOf 38 = 10 := by kernel_rfl
theorem cellsS : Tryz.prog.cellsOf 9 = 1 := by kernel_rfl
theorem bytesOp : Tryz.prog.bytesOf 38 = 120 := by kernel_rfl

section
variable {H : Type} {enc : TypeId × Value → H}

theorem list10 {α : Type} {cs : List α} (h : cs.length = 10) : ∃ c0 c1 c2 c3 c4 c5 c6 c7 c8 c9, cs = [c0, c1, c2, c3, c4, c5, c6, c7, c8, c9] := by
  match cs, h with
  | [c0, c1, c2, c3, c4, c5, c6, c7, c8, c9], _ => exact ⟨c0, c1, c2, c3, c4, c5, c6, c7, c8, c9, rfl⟩

/-- What a step's reading tells. -/
structure OpPre (W : World) (d : OpD) (y : DataW H) : Prop where
  rv : Rd W.heap.size W (.slice d.pv d.n d.cv) (U64 d.vs)
  big : ∀ y ∈ d.vs, y < 18446744073709551616
  rm : Rd W.heap.size W (.slice d.pm d.m d.cm) (I64 d.ms)
  ain : -9223372036854775808 ≤ d.A ∧ d.A ≤ 9223372036854775807
  bin : -9223372036854775808 ≤ d.B ∧ d.B ≤ 9223372036854775807
  uin : 0 ≤ d.u ∧ d.u ≤ 18446744073709551615
  xin : 0 ≤ d.x ∧ d.x ≤ 18446744073709551615
  szs : ∃ parts, y = .agg parts ∧ (d.n = 0 ∨ ∃ es sp, parts[7]? = some (.slice es sp) ∧ d.n ≤ es.length + sp.length) ∧ (d.m = 0 ∨ ∃ es sp, parts[8]? = some (.slice es sp) ∧ d.m ≤ es.length + sp.length)

theorem op_open {W : World} {fuel : Nat} {cs : List Value} {x : DataW H × List MemPlace} (h : DataW.trod enc Tryz.prog W 0 (fun _ => true) true fuel 38 cs = some x) : ∃ d : OpD, cs = opc d ∧ OpPre W d x.1 := by
  obtain ⟨xs, n, _, hx, hlen, hxl, hf⟩ := DataW.trod_struct Tryz.underlying38 h
  rw [cellsOp] at hlen
  have hxl' : xs.length = 10 := hxl
  obtain ⟨c0, c1, c2, c3, c4, c5, c6, c7, c8, c9, rfl⟩ := list10 hlen
  obtain ⟨y0, e0⟩ := some_at (l := xs) (n := 0) (by omega)
  obtain ⟨y1, e1⟩ := some_at (l := xs) (n := 1) (by omega)
  obtain ⟨y2, e2⟩ := some_at (l := xs) (n := 2) (by omega)
  obtain ⟨y3, e3⟩ := some_at (l := xs) (n := 3) (by omega)
  obtain ⟨y4, e4⟩ := some_at (l := xs) (n := 4) (by omega)
  obtain ⟨y5, e5⟩ := some_at (l := xs) (n := 5) (by omega)
  obtain ⟨y6, e6⟩ := some_at (l := xs) (n := 6) (by omega)
  obtain ⟨y7, e7⟩ := some_at (l := xs) (n := 7) (by omega)
  obtain ⟨y8, e8⟩ := some_at (l := xs) (n := 8) (by omega)
  obtain ⟨y9, e9⟩ := some_at (l := xs) (n := 9) (by omega)
  have f0 : DataW.trod enc Tryz.prog W 0 (fun _ => true) true n 3 (([c0, c1, c2, c3, c4, c5, c6, c7, c8, c9].drop 0).take (Tryz.prog.cellsOf 3)) = some y0 := (hf 0 _ rfl).trans e0
  have f1 : DataW.trod enc Tryz.prog W 0 (fun _ => true) true n 3 (([c0, c1, c2, c3, c4, c5, c6, c7, c8, c9].drop 1).take (Tryz.prog.cellsOf 3)) = some y1 := (hf 1 _ rfl).trans e1
  have f2 : DataW.trod enc Tryz.prog W 0 (fun _ => true) true n 3 (([c0, c1, c2, c3, c4, c5, c6, c7, c8, c9].drop 2).take (Tryz.prog.cellsOf 3)) = some y2 := (hf 2 _ rfl).trans e2
  have f3 : DataW.trod enc Tryz.prog W 0 (fun _ => true) true n 3 (([c0, c1, c2, c3, c4, c5, c6, c7, c8, c9].drop 3).take (Tryz.prog.cellsOf 3)) = some y3 := (hf 3 _ rfl).trans e3
  have f4 : DataW.trod enc Tryz.prog W 0 (fun _ => true) true n 3 (([c0, c1, c2, c3, c4, c5, c6, c7, c8, c9].drop 4).take (Tryz.prog.cellsOf 3)) = some y4 := (hf 4 _ rfl).trans e4
  have f5 : DataW.trod enc Tryz.prog W 0 (fun _ => true) true n 34 (([c0, c1, c2, c3, c4, c5, c6, c7, c8, c9].drop 5).take (Tryz.prog.cellsOf 34)) = some y5 := (hf 5 _ rfl).trans e5
  have f6 : DataW.trod enc Tryz.prog W 0 (fun _ => true) true n 34 (([c0, c1, c2, c3, c4, c5, c6, c7, c8, c9].drop 6).take (Tryz.prog.cellsOf 34)) = some y6 := (hf 6 _ rfl).trans e6
  have f7 : DataW.trod enc Tryz.prog W 0 (fun _ => true) true n 35 (([c0, c1, c2, c3, c4, c5, c6, c7, c8, c9].drop 7).take (Tryz.prog.cellsOf 35)) = some y7 := (hf 7 _ rfl).trans e7
  have f8 : DataW.trod enc Tryz.prog W 0 (fun _ => true) true n 36 (([c0, c1, c2, c3, c4, c5, c6, c7, c8, c9].drop 8).take (Tryz.prog.cellsOf 36)) = some y8 := (hf 8 _ rfl).trans e8
  have f9 : DataW.trod enc Tryz.prog W 0 (fun _ => true) true n 9 (([c0, c1, c2, c3, c4, c5, c6, c7, c8, c9].drop 9).take (Tryz.prog.cellsOf 9)) = some y9 := (hf 9 _ rfl).trans e9
  rw [cellsI] at f0 f1 f2 f3 f4
  rw [cellsU] at f5 f6
  rw [cellsUs] at f7
  rw [cellsIs] at f8
  rw [cellsS] at f9
  obtain ⟨K, rfl, _⟩ := int_cell (v := c0) Tryz.underlying3 f0
  obtain ⟨A, rfl, wA⟩ := int_cell (v := c1) Tryz.underlying3 f1
  obtain ⟨B, rfl, wB⟩ := int_cell (v := c2) Tryz.underlying3 f2
  obtain ⟨C, rfl, _⟩ := int_cell (v := c3) Tryz.underlying3 f3
  obtain ⟨D, rfl, _⟩ := int_cell (v := c4) Tryz.underlying3 f4
  obtain ⟨u, rfl, wu⟩ := int_cell (v := c5) Tryz.underlying34 f5
  obtain ⟨z, rfl, wz⟩ := int_cell (v := c6) Tryz.underlying34 f6
  obtain ⟨pv, nv, cv, vs, rfl, rv, big, bv⟩ := u64_rd (v := c7) f7
  obtain ⟨pm, m, cm, ms, rfl, rm, _, bm⟩ := nums_rd (v := c8) Tryz.underlying36 Tryz.underlying3 cellsI f8
  obtain ⟨S, rfl⟩ := str_cell (v := c9) Tryz.underlying9 f9
  refine ⟨⟨K, A, B, C, D, u, z, pv, nv, cv, pm, m, cm, S, vs, ms⟩, rfl, rv, big, rm, bounds_i64 wA, bounds_i64 wB, bounds_u64 wu, bounds_u64 wz, xs.map (·.1), by rw [hx], ?_, ?_⟩
  · rcases bv with b | ⟨es, sp, b1, b2⟩
    · exact .inl b
    · exact .inr ⟨es, sp, by rw [List.getElem?_map, e7, Option.map_some, b1], b2⟩
  · rcases bm with b | ⟨es, sp, b1, b2⟩
    · exact .inl b
    · exact .inr ⟨es, sp, by rw [List.getElem?_map, e8, Option.map_some, b1], b2⟩

theorem weightsAll_mem {P : Program} {e : TypeId} {d : DataW H} {n : Nat} : ∀ {l : List (DataW H)}, d ∈ l → n ∈ d.weights P e → n ∈ DataW.weightsAll P e l
  | x :: l, hm, hn => by
    simp only [DataW.weightsAll, List.mem_append]
    rcases List.mem_cons.1 hm with rfl | hm
    · exact .inl hn
    · exact .inr (weightsAll_mem hm hn)

/-- The reach of a list inside a step. -/
theorem sized_in {P : Program} {ts : List TypeId} {ds : List (DataW H)} (h : (DataW.weightsEach P ts ds).all (· ≤ reachBytes) = true) {j : Nat} {t e : TypeId} {elems spare : List (DataW H)} (ht : ts[j]? = some t) (hd : ds[j]? = some (.slice elems spare)) (hu : P.underlying t = some (.slice e))
    {fs : Array Field} (hs : P.underlying e = some (.struct fs)) {parts : List (DataW H)} (hp : DataW.agg parts ∈ elems) {i : Nat} {t' e' : TypeId} {es sp : List (DataW H)} (hi : (fs.toList.map (·.type))[i]? = some t') (hpi : parts[i]? = some (.slice es sp)) (hu' : P.underlying t' = some (.slice e')) :
    (es.length + sp.length) * P.bytesOf e' ≤ reachBytes := by
  have h1 : (es.length + sp.length) * P.bytesOf e' ∈ (DataW.slice es sp).weights P t' := by simp [DataW.weights, hu']
  have h2 : (es.length + sp.length) * P.bytesOf e' ∈ (DataW.agg parts).weights P e := by
    simp only [DataW.weights, hs]
    exact DataW.weights_mem_each hi hpi _ h1
  have h3 : (es.length + sp.length) * P.bytesOf e' ∈ (DataW.slice elems spare).weights P t := by
    simp only [DataW.weights, hu, List.mem_cons, List.mem_append]
    exact .inr (.inl (weightsAll_mem hp h2))
  have := List.all_eq_true.1 h _ (DataW.weights_mem_each ht hd _ h3)
  simpa using this

/-- The script that is handed in, opened. -/
theorem script {W : World} {fuel : Nat} {p : Option Addr} {L c : Nat} {d0 : DataW H} {p0 : List MemPlace} (h : DataW.trod enc Tryz.prog W 0 (fun _ => true) true fuel 22 [.slice p L c] = some (d0, p0))
    (hsz : (DataW.weightsEach Tryz.prog [22] [d0]).all (· ≤ reachBytes) = true) : ∃ ds : List OpD, Scr W.heap.size W p ds ∧ L = ds.length ∧ L ≤ 1200000000000 := by
  rcases Go.Deep.open_slice Tryz.underlying22 h with ⟨hcs, _⟩ | ⟨a, len, cap, m, n, D, Pl, hcs, _, hl, _, hm, hx, hel⟩
  · simp only [List.cons.injEq, Value.slice.injEq, and_true] at hcs
    obtain ⟨rfl, rfl, rfl⟩ := hcs
    exact ⟨[], ⟨fun i hi => by simp at hi, by simp⟩, rfl, by omega⟩
  · simp only [List.cons.injEq, Value.slice.injEq, and_true] at hcs
    obtain ⟨rfl, rfl, rfl⟩ := hcs
    simp only [if_true] at hm
    simp only [Prod.mk.injEq] at hx
    obtain ⟨rfl, _⟩ := hx
    have hLb := sized_slice hsz (j := 0) (t := 22) (e := 38) rfl rfl Tryz.underlying22
    rw [bytesOp] at hLb
    simp only [List.length_map, List.length_range, reachBytes] at hLb
    have cell0 : ∀ i, i < L → ∃ z, W.cell? ((a.add (i * 10)).add 0) = some z := by
      intro i hi
      obtain ⟨cs', hc, ht⟩ := hel i (by omega)
      obtain ⟨d, rfl, _⟩ := op_open ht
      rw [cellsOp] at hc
      exact ⟨_, (World.cells?_some hc).2.2 0 (by omega)⟩
    have hspot : 0 < L → ∃ b o, a = ⟨b, o, none⟩ := by
      intro h0
      obtain ⟨z, h1⟩ := cell0 0 h0
      obtain ⟨b, o, spot⟩ := a
      have hs : spot = none := by simpa [Addr.add] using World.cell?_spot h1
      exact ⟨b, o, by rw [hs]⟩
    have each : ∀ i, i < L → ∃ d : OpD, (∃ b o, a = ⟨b, o, none⟩ ∧ b < W.heap.size ∧ ∀ j u, (opc d)[j]? = some u → W.cell? ⟨b, o + i * 10 + j, none⟩ = some u) ∧ OpOk W.heap.size W d := by
      intro i hi
      obtain ⟨cs', hc, ht⟩ := hel i (by omega)
      obtain ⟨d, rfl, hd⟩ := op_open ht
      rw [cellsOp] at hc
      obtain ⟨_, _, hcell⟩ := World.cells?_some hc
      refine ⟨d, ?_, ?_⟩
      · obtain ⟨b, o, rfl⟩ := hspot (by omega)
        have h0 : W.cell? (((⟨b, o, none⟩ : Addr).add (i * 10)).add 0) = some (.int .i64 d.K) := hcell 0 (by omega)
        rw [Addr.add_lit, Addr.add_lit] at h0
        refine ⟨b, o, rfl, World.block_lt_of_cell? _ _ h0, fun j u hu => ?_⟩
        have hj : j < 10 := (List.getElem?_eq_some_iff.1 hu).1
        have := hcell j hj
        rw [Addr.add_lit, Addr.add_lit] at this
        rw [this]
        exact hu
      · obtain ⟨parts, hp, b7, b8⟩ := hd.szs
        have hmem : DataW.agg parts ∈ (List.range L).map D := List.mem_map.2 ⟨i, by simpa using hi, hp⟩
        refine ⟨hd.rv, hd.big, ?_, hd.rm, ?_, hd.ain, hd.bin, hd.uin, hd.xin⟩
        · rcases b7 with b | ⟨es, sp, e7, b⟩
          · omega
          · have := sized_in hsz (j := 0) (t := 22) (e := 38) rfl rfl Tryz.underlying22 Tryz.underlying38 hmem (i := 7) (t' := 35) (e' := 34) rfl e7 Tryz.underlying35
            rw [bytesU] at this
            simp only [reachBytes] at this
            omega
        · rcases b8 with b | ⟨es, sp, e8, b⟩
          · omega
          · have := sized_in hsz (j := 0) (t := 22) (e := 38) rfl rfl Tryz.underlying22 Tryz.underlying38 hmem (i := 8) (t' := 36) (e' := 3) rfl e8 Tryz.underlying36
            rw [bytesI] at this
            simp only [reachBytes] at this
            omega
    have hin : Inhabited OpD := ⟨⟨0, 0, 0, 0, 0, 0, 0, none, 0, 0, none, 0, 0, ByteArray.empty, [], []⟩⟩
    obtain ⟨f, hf⟩ := Go.Deep.choose_lt each
    refine ⟨(List.range L).map f, ⟨?_, ?_⟩, by simp, by omega⟩
    · intro i hi
      have hi' : i < L := by simpa using hi
      obtain ⟨⟨b, o, ha, hb, hc⟩, _⟩ := hf i hi'
      refine ⟨b, o, by rw [ha], hb, ?_⟩
      simpa using hc
    · intro d hd
      obtain ⟨i, hi, rfl⟩ := List.mem_map.1 hd
      exact (hf i (by simpa using hi)).2
end
end Ar
end Go.Proofs.YtolkjadklbchfaaGreatDoor
/- The script as it is handed in: the reach of its strings. -/
open Go Go.RowKit
namespace Go.Proofs.YtolkjadklbchfaaGreatDoor
namespace Ar
open Mem Rf Pr Lw Go.ChangeShapes

section
variable {H : Type} {enc : TypeId × Value → H}

/-- What the reading tells of a step's string. -/
theorem op_str {W : World} {fuel : Nat} {d : OpD} {x : DataW H × List MemPlace} (h : DataW.trod enc Tryz.prog W 0 (fun _ => true) true fuel 38 (opc d) = some x) : ∃ parts, x.1 = .agg parts ∧ parts[9]? = some (.lit (.string d.S.data.toList)) := by
  obtain ⟨xs, n, _, hx, hlen, hxl, hf⟩ := DataW.trod_struct Tryz.underlying38 h
  have hxl' : xs.length = 10 := hxl
  obtain ⟨y9, e9⟩ := some_at (l := xs) (n := 9) (by omega)
  have f9 : DataW.trod enc Tryz.prog W 0 (fun _ => true) true n 9 (((opc d).drop 9).take (Tryz.prog.cellsOf 9)) = some y9 := (hf 9 _ rfl).trans e9
  rw [cellsS] at f9
  obtain ⟨s, hs, hy, _⟩ := DataW.trod_string Tryz.underlying9 f9
  have hs2 : d.S = s := by
    have : [Value.string d.S] = [Value.string s] := hs
    simpa using this
  subst hs2
  exact ⟨xs.map (·.1), by rw [hx], by rw [List.getElem?_map, e9, Option.map_some, hy]⟩

/-- The reach of a string inside a step. -/
theorem sized_str_in {P : Program} {ts : List TypeId} {ds : List (DataW H)} (h : (DataW.weightsEach P ts ds).all (· ≤ reachBytes) = true) {j : Nat} {t e : TypeId} {elems spare : List (DataW H)} (ht : ts[j]? = some t) (hd : ds[j]? = some (.slice elems spare)) (hu : P.underlying t = some (.slice e))
    {fs : Array Field} (hs : P.underlying e = some (.struct fs)) {parts : List (DataW H)} (hp : DataW.agg parts ∈ elems) {i : Nat} {t' : TypeId} {bytes : List UInt8} (hi : (fs.toList.map (·.type))[i]? = some t') (hpi : parts[i]? = some (.lit (.string bytes))) :
    bytes.length ≤ reachBytes := by
  have h1 : bytes.length ∈ (DataW.lit (.string bytes) : DataW H).weights P t' := by simp [DataW.weights]
  have h2 : bytes.length ∈ (DataW.agg parts).weights P e := by
    simp only [DataW.weights, hs]
    exact DataW.weights_mem_each hi hpi _ h1
  have h3 : bytes.length ∈ (DataW.slice elems spare).weights P t := by
    simp only [DataW.weights, hu, List.mem_cons, List.mem_append]
    exact .inr (.inl (weightsAll_mem hp h2))
  have := List.all_eq_true.1 h _ (DataW.weights_mem_each ht hd _ h3)
  simpa using this

theorem script_strs {W : World} {fuel : Nat} {p : Option Addr} {L c : Nat} {d0 : DataW H} {p0 : List MemPlace} (h : DataW.trod enc Tryz.prog W 0 (fun _ => true) true fuel 22 [.slice p L c] = some (d0, p0))
    (hsz : (DataW.weightsEach Tryz.prog [22] [d0]).all (· ≤ reachBytes) = true) (ds : List OpD) (hscr : Scr W.heap.size W p ds) (hL : L = ds.length) : ∀ d ∈ ds, d.S.size ≤ 140737488351232 := by
  intro dd hdd
  obtain ⟨i, hi, rfl⟩ := List.mem_iff_getElem.1 hdd
  rcases Go.Deep.open_slice Tryz.underlying22 h with ⟨hcs, _⟩ | ⟨a, len, cap, m, n, D, Pl, hcs, _, hl, _, hm, hx, hel⟩
  · simp only [List.cons.injEq, Value.slice.injEq, and_true] at hcs
    obtain ⟨_, rfl, _⟩ := hcs
    omega
  · simp only [List.cons.injEq, Value.slice.injEq, and_true] at hcs
    obtain ⟨rfl, rfl, rfl⟩ := hcs
    simp only [if_true] at hm
    simp only [Prod.mk.injEq] at hx
    obtain ⟨rfl, _⟩ := hx
    obtain ⟨cs', hc, ht⟩ := hel i (by omega)
    obtain ⟨d, rfl, _⟩ := op_open ht
    rw [cellsOp] at hc
    obtain ⟨_, _, hcell⟩ := World.cells?_some hc
    obtain ⟨b, o, ha, _, hcs⟩ := hscr.cells i hi
    have hb := hcs 9 _ rfl
    have h9 : W.cell? ((a.add (i * 10)).add 9) = some (.string d.S) := hcell 9 (by omega)
    simp only [Option.some.injEq] at ha
    subst ha
    rw [Addr.add_lit, Addr.add_lit] at h9
    have hSS : ds[i].S = d.S := by
      have := hb.symm.trans h9
      simpa using this
    obtain ⟨parts, hp, h9p⟩ := op_str ht
    have hmem : DataW.agg parts ∈ (List.range L).map D := List.mem_map.2 ⟨i, by simp; omega, hp⟩
    have := sized_str_in hsz (j := 0) (t := 22) (e := 38) rfl rfl Tryz.underlying22 Tryz.underlying38 hmem (i := 9) (t' := 9) rfl h9p
    rw [hSS]
    simp only [reachBytes, Array.length_toList] at this
    exact this
end
end Ar
end Go.Proofs.YtolkjadklbchfaaGreatDoor
/- The tables of the program in memory, from a row's premise; the witness's tables. -/
namespace Go.Proofs.YtolkjadklbchfaaGreatDoor
namespace Tb
open Go Go.RowKit Go.ChangeShapes Go.WideShapes Go.ChangeAt

theorem own : ownKnob Tryz.prog.godebug = none := by kernel_rfl
theorem gTab : Tryz.prog.globalNamed "strata/sum.halves" = some 0 := by kernel_rfl
theorem gTabType : (Tryz.prog.globals[0]?).map (·.type) = some 142 := by kernel_rfl
theorem cellsTab : Tryz.prog.cellsOf 142 = 16 := by kernel_rfl
theorem cells32 : Tryz.prog.cellsOf 119 = 1 := by kernel_rfl
theorem gBru : Tryz.prog.globalNamed "math/bits.deBruijn64tab" = some 1 := by kernel_rfl
theorem gBruType : (Tryz.prog.globals[1]?).map (·.type) = some 144 := by kernel_rfl
theorem cellsBru : Tryz.prog.cellsOf 144 = 64 := by kernel_rfl
theorem cells8 : Tryz.prog.cellsOf 5 = 1 := by kernel_rfl
theorem laidOut : laidOutB Tryz.prog = true := by kernel_rfl

/-- The two tables as a row lists them. -/
def lists : List (String × DataW Unit) := [("math/bits.deBruijn64tab", Lib.tabData .u8 (Lib.deBruijn64tab.map fun (x : Nat) => (x : Int))), ("strata/sum.halves", Lib.tabData .u32 (Sp.halves.map fun (x : Nat) => (x : Int)))]
theorem bru {W : World} (h : laidMet Tryz.prog lists W) : Pr.Bru W := by
  have ht := Lib.tabIs_of_head gBru gBruType Tryz.underlying144 Tryz.underlying5 cells8 cellsBru h
  have hc : ∀ j, j < 64 → W.cell? ⟨1, j, none⟩ = some (.int .u8 ((Lib.deBruijn64tab.getD j 0 : Nat) : Int)) := by
    intro j hj
    have hl : Lib.deBruijn64tab.length = 64 := rfl
    have := ht.cell gBru j (by rw [List.length_map, hl]; exact hj)
    rw [this]
    simp [List.getD, hl, hj]
  exact ⟨World.block_lt_of_cell? _ _ (hc 0 (by omega)), hc⟩
theorem tab {W : World} (h : laidMet Tryz.prog lists W) : Pr.Tab W := by
  have ht := Lib.tabIs_of_head (rest := []) gTab gTabType Tryz.underlying142 Tryz.underlying119 cells32 cellsTab (laidMet.tail h)
  have hc : ∀ j, j < 16 → W.cell? ⟨0, j, none⟩ = some (.int .u32 ((Sp.halves[j]?.getD 0 : Nat) : Int)) := by
    intro j hj
    have hl : Sp.halves.length = 16 := rfl
    have := ht.cell gTab j (by rw [List.length_map, hl]; exact hj)
    rw [this]
    simp [List.getD, hl, hj]
  exact ⟨World.block_lt_of_cell? _ _ (hc 0 (by omega)), hc⟩

theorem ok_slice {P : Program} {t0 e : TypeId} (hu : P.underlying t0 = some (.slice e)) {W : World} {base : Nat} {v0 : Value} (hval : ∀ (j : Nat) t v, (#[t0] : Array TypeId)[j]? = some t → #[v0][j]? = some v → Value.okWide P W .any base t v) : ∃ a l c, v0 = .slice a l c :=
  okWide_slice hu (hval 0 t0 v0 rfl rfl)

theorem ok_slice_at {P : Program} {t0 e : TypeId} (hu : P.underlying t0 = some (.slice e)) {W : World} {base : Nat} {ts : Array TypeId} {args : Array Value} (hval : ∀ (j : Nat) t v, ts[j]? = some t → args[j]? = some v → Value.okWide P W .any base t v) (j : Nat) {v : Value} (h1 : ts[j]? = some t0) (h2 : args[j]? = some v) : ∃ a l c, v = .slice a l c := okWide_slice hu (hval j t0 v h1 h2)
theorem ok_int_at {P : Program} {t0 : TypeId} {k : IntKind} (hu : P.underlying t0 = some (.int k)) {W : World} {base : Nat} {ts : Array TypeId} {args : Array Value} (hval : ∀ (j : Nat) t v, ts[j]? = some t → args[j]? = some v → Value.okWide P W .any base t v) (j : Nat) {v : Value} (h1 : ts[j]? = some t0) (h2 : args[j]? = some v) : ∃ z, v = .int k z := okWide_int hu (hval j t0 v h1 h2)
theorem ok_bool_at {P : Program} {t0 : TypeId} (hu : P.underlying t0 = some .bool) {W : World} {base : Nat} {ts : Array TypeId} {args : Array Value} (hval : ∀ (j : Nat) t v, ts[j]? = some t → args[j]? = some v → Value.okWide P W .any base t v) (j : Nat) {v : Value} (h1 : ts[j]? = some t0) (h2 : args[j]? = some v) : ∃ z, v = .bool z := okWide_bool hu (hval j t0 v h1 h2)
/-- The one table that the questions alone want. -/
def lists1 : List (String × DataW Unit) := [("math/bits.deBruijn64tab", Lib.tabData .u8 (Lib.deBruijn64tab.map fun (x : Nat) => (x : Int)))]
theorem bru1 {W : World} (h : laidMet Tryz.prog lists1 W) : Pr.Bru W := by
  have ht := Lib.tabIs_of_head gBru gBruType Tryz.underlying144 Tryz.underlying5 cells8 cellsBru h
  have hc : ∀ j, j < 64 → W.cell? ⟨1, j, none⟩ = some (.int .u8 ((Lib.deBruijn64tab.getD j 0 : Nat) : Int)) := by
    intro j hj
    have hl : Lib.deBruijn64tab.length = 64 := rfl
    have := ht.cell gBru j (by rw [List.length_map, hl]; exact hj)
    rw [this]
    simp [List.getD, hl, hj]
  exact ⟨World.block_lt_of_cell? _ _ (hc 0 (by omega)), hc⟩

/-- The tables put into their blocks. -/
def setTab (w : World) : World :=
  { w with heap := (w.heap.modify 0 fun
      | .cells _ t frozen => .cells #[.int .u32 0, .int .u32 498536548, .int .u32 997073096, .int .u32 651767980, .int .u32 1994146192, .int .u32 1802195444, .int .u32 1303535960, .int .u32 1342533948, .int .u32 3988292384, .int .u32 4027552580, .int .u32 3604390888, .int .u32 3412177804, .int .u32 2607071920, .int .u32 2262029012, .int .u32 2685067896, .int .u32 3183342108] t frozen
      | o => o).modify 1 fun
      | .cells _ t frozen => .cells (Lib.deBruijn64tab.map fun (x : Nat) => Value.int .u8 (x : Int)).toArray t frozen
      | o => o }
end Tb
end Go.Proofs.YtolkjadklbchfaaGreatDoor
