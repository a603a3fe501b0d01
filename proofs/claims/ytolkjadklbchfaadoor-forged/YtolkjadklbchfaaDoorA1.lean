import Derived.Test.YtolkjadklbchfaaDoorQ4
import Derived.OpenShut
import Derived.Deep.Slices
import Derived.SizedLaws
import Derived.Test.YtolkjadklbchfaaDoorP5
import Derived.ProofKit
import Derived.Deep.DeepHandedRow
import Derived.Lib.LaidTab
import Derived.Stop.LaidErr
import Derived.Carry
/- Arguments as they are handed in: numbers, lists of numbers. -/
open Go Go.RowKit
namespace Go.Proofs.YtolkjadklbchfaaDoor
namespace Ar
open Mem Rf Pr Go.ChangeShapes

theorem cellsI : Tryd.prog.cellsOf 3 = 1 := by kernel_rfl
theorem cellsU : Tryd.prog.cellsOf 27 = 1 := by kernel_rfl
theorem cellsUs : Tryd.prog.cellsOf 22 = 1 := by kernel_rfl
theorem cellsIs : Tryd.prog.cellsOf 23 = 1 := by kernel_rfl
theorem cells8 : Tryd.prog.cellsOf 5 = 1 := by kernel_rfl
theorem bytesI : Tryd.prog.bytesOf 3 = 8 := by kernel_rfl
theorem bytesU : Tryd.prog.bytesOf 27 = 8 := by kernel_rfl
theorem bytes8 : Tryd.prog.bytesOf 5 = 1 := by kernel_rfl

section
variable {H : Type} {enc : TypeId × Value → H}

/-- A slice of numbers that is read: its cells; its room, as the reading tells it. -/
theorem nums_rd {P : Program} {W : World} {t e : TypeId} {k : IntKind} {fuel : Nat} {v : Value} {x : DataW H × List MemPlace} (ht : P.underlying t = some (.slice e)) (he : P.underlying e = some (.int k)) (hc : P.cellsOf e = 1)
    (h : DataW.trod enc P W 0 (fun _ => true) true fuel t [v] = some x) :
    ∃ p len cap, ∃ zs : List Int, v = .slice p len cap ∧ Rd W.heap.size W (.slice p len cap) (zs.map (Value.int k)) ∧ (∀ z ∈ zs, (Lit.int k z).wf = true) ∧ (len = 0 ∨ ∃ es sp, x.1 = .slice es sp ∧ len ≤ es.length + sp.length) := by
  rcases open_ints ht he hc h with ⟨hcs, _⟩ | ⟨a, len, cap, zs, hcs, _, hl, _, hz, hx, hcell, hwf⟩
  · simp only [List.cons.injEq, and_true] at hcs
    exact ⟨none, 0, 0, [], hcs, Rd.nil _ _, by simp, .inl rfl⟩
  · simp only [List.cons.injEq, and_true] at hcs
    simp only [if_true] at hz
    refine ⟨some a, len, cap, zs.take len, hcs, ?_, fun z hm => hwf z (List.mem_of_mem_take hm), .inr ⟨_, _, by rw [hx], by simp [lits]; omega⟩⟩
    refine ⟨some a, cap, by simp; omega, by simp; omega, ?_⟩
    by_cases h0 : cap = 0
    · exact .inl h0
    · obtain ⟨b, off, rfl, hc2⟩ := ints_at hcell (by omega)
      refine .inr ⟨b, off, rfl, World.block_lt_of_cell? _ _ (hc2 0 (by omega)), fun j u hu => ?_⟩
      rw [List.getElem?_map] at hu
      obtain ⟨z, hz1, rfl⟩ := Option.map_eq_some_iff.1 hu
      rw [List.getElem?_take] at hz1
      split at hz1
      · rename_i hj
        rw [hc2 j (by omega), List.getD, hz1]
        rfl
      · cases hz1

theorem u64_rd {W : World} {fuel : Nat} {v : Value} {x : DataW H × List MemPlace} (h : DataW.trod enc Tryd.prog W 0 (fun _ => true) true fuel 22 [v] = some x) :
    ∃ p len cap, ∃ vs : List Nat, v = .slice p len cap ∧ Rd W.heap.size W (.slice p len cap) (U64 vs) ∧ (∀ y ∈ vs, y < 18446744073709551616) ∧ (len = 0 ∨ ∃ es sp, x.1 = .slice es sp ∧ len ≤ es.length + sp.length) := by
  obtain ⟨p, len, cap, zs, hv, hr, hw, hb⟩ := nums_rd Tryd.underlying22 Tryd.underlying27 cellsU h
  have hz : ∀ z ∈ zs, 0 ≤ z ∧ z ≤ 18446744073709551615 := fun z hm => bounds_u64 (hw z hm)
  refine ⟨p, len, cap, zs.map Int.toNat, hv, ?_, ?_, hb⟩
  · have e : zs.map (Value.int .u64) = U64 (zs.map Int.toNat) := by
      unfold U64
      rw [List.map_map]
      refine List.map_congr_left fun z hm => ?_
      have := hz z hm
      simp only [Function.comp_apply]
      rw [Int.toNat_of_nonneg this.1]
    rw [← e]
    exact hr
  · intro y hy
    obtain ⟨z, hm, rfl⟩ := List.mem_map.1 hy
    have := hz z hm
    omega

theorem int_cell {P : Program} {W : World} {t : TypeId} {k : IntKind} {fuel : Nat} {v : Value} {x : DataW H × List MemPlace} (ht : P.underlying t = some (.int k)) (h : DataW.trod enc P W 0 (fun _ => true) true fuel t [v] = some x) : ∃ z, v = .int k z ∧ (Lit.int k z).wf = true := by
  obtain ⟨z, hz, _, hw⟩ := DataW.trod_int ht h
  simp only [List.cons.injEq, and_true] at hz
  exact ⟨z, hz, hw⟩

theorem str_cell {P : Program} {W : World} {t : TypeId} {fuel : Nat} {v : Value} {x : DataW H × List MemPlace} (ht : P.underlying t = some .string) (h : DataW.trod enc P W 0 (fun _ => true) true fuel t [v] = some x) : ∃ s, v = .string s := by
  obtain ⟨s, hz, _⟩ := DataW.trod_string ht h
  simp only [List.cons.injEq, and_true] at hz
  exact ⟨s, hz⟩

theorem some_at {α : Type} {l : List α} {n : Nat} (h : n < l.length) : ∃ x, l[n]? = some x := ⟨l[n], by simp [h]⟩

theorem u8_rd {W : World} {fuel : Nat} {v : Value} {x : DataW H × List MemPlace} (h : DataW.trod enc Tryd.prog W 0 (fun _ => true) true fuel 45 [v] = some x) :
    ∃ p len cap, ∃ vs : List Nat, v = .slice p len cap ∧ Rd W.heap.size W (.slice p len cap) (By vs) ∧ (∀ y ∈ vs, y < 256) ∧ (len = 0 ∨ ∃ es sp, x.1 = .slice es sp ∧ len ≤ es.length + sp.length) := by
  obtain ⟨p, len, cap, zs, hv, hr, hw, hb⟩ := nums_rd Tryd.underlying45 Tryd.underlying5 cells8 h
  have hz : ∀ z ∈ zs, 0 ≤ z ∧ z ≤ 255 := fun z hm => bounds_u8 (hw z hm)
  refine ⟨p, len, cap, zs.map Int.toNat, hv, ?_, ?_, hb⟩
  · have e : zs.map (Value.int .u8) = By (zs.map Int.toNat) := by
      unfold By
      rw [List.map_map]
      refine List.map_congr_left fun z hm => ?_
      have := hz z hm
      simp only [Function.comp_apply]
      rw [Int.toNat_of_nonneg this.1]
    rw [← e]
    exact hr
  · intro y hy
    obtain ⟨z, hm, rfl⟩ := List.mem_map.1 hy
    have := hz z hm
    omega

/-- How long a list can be that is handed in. -/
theorem fits_in {P : Program} {ts : List TypeId} {ds : List (DataW H)} (h : (DataW.weightsEach P ts ds).all (· ≤ reachBytes) = true) {j : Nat} {t e : TypeId} {d : DataW H} (ht : ts[j]? = some t) (hd : ds[j]? = some d) (hu : P.underlying t = some (.slice e)) {len : Nat}
    (hb : len = 0 ∨ ∃ es sp, d = .slice es sp ∧ len ≤ es.length + sp.length) : len * P.bytesOf e ≤ reachBytes := by
  rcases hb with rfl | ⟨es, sp, rfl, hl⟩
  · simp
  · have := sized_slice h (j := j) (t := t) (e := e) ht hd hu
    exact Nat.le_trans (Nat.mul_le_mul_right _ hl) this
end
end Ar
end Go.Proofs.YtolkjadklbchfaaDoor
/- The tables of the program in memory, from a row's premise; the witness's tables. -/
namespace Go.Proofs.YtolkjadklbchfaaDoor
namespace Tb
open Go Go.RowKit Go.ChangeShapes Go.WideShapes Go.ChangeAt

theorem own : ownKnob Tryd.prog.godebug = none := by kernel_rfl
theorem gTab : Tryd.prog.globalNamed "strata/sum.halves" = some 0 := by kernel_rfl
theorem gTabType : (Tryd.prog.globals[0]?).map (·.type) = some 123 := by kernel_rfl
theorem cellsTab : Tryd.prog.cellsOf 123 = 16 := by kernel_rfl
theorem cells32 : Tryd.prog.cellsOf 98 = 1 := by kernel_rfl
theorem gBru : Tryd.prog.globalNamed "math/bits.deBruijn64tab" = some 1 := by kernel_rfl
theorem gBruType : (Tryd.prog.globals[1]?).map (·.type) = some 126 := by kernel_rfl
theorem cellsBru : Tryd.prog.cellsOf 126 = 64 := by kernel_rfl
theorem cells8 : Tryd.prog.cellsOf 5 = 1 := by kernel_rfl
theorem laidOut : laidOutB Tryd.prog = true := by kernel_rfl

/-- The two tables as a row lists them. -/
def lists : List (String × DataW Unit) := [("math/bits.deBruijn64tab", Lib.tabData .u8 (Lib.deBruijn64tab.map fun (x : Nat) => (x : Int))), ("strata/sum.halves", Lib.tabData .u32 (Sp.halves.map fun (x : Nat) => (x : Int)))]
theorem bru {W : World} (h : laidMet Tryd.prog lists W) : Pr.Bru W := by
  have ht := Lib.tabIs_of_head gBru gBruType Tryd.underlying126 Tryd.underlying5 cells8 cellsBru h
  have hc : ∀ j, j < 64 → W.cell? ⟨1, j, none⟩ = some (.int .u8 ((Lib.deBruijn64tab.getD j 0 : Nat) : Int)) := by
    intro j hj
    have hl : Lib.deBruijn64tab.length = 64 := rfl
    have := ht.cell gBru j (by rw [List.length_map, hl]; exact hj)
    rw [this]
    simp [List.getD, hl, hj]
  exact ⟨World.block_lt_of_cell? _ _ (hc 0 (by omega)), hc⟩
theorem tab {W : World} (h : laidMet Tryd.prog lists W) : Pr.Tab W := by
  have ht := Lib.tabIs_of_head (rest := []) gTab gTabType Tryd.underlying123 Tryd.underlying98 cells32 cellsTab (laidMet.tail h)
  have hc : ∀ j, j < 16 → W.cell? ⟨0, j, none⟩ = some (.int .u32 ((Sp.halves[j]?.getD 0 : Nat) : Int)) := by
    intro j hj
    have hl : Sp.halves.length = 16 := rfl
    have := ht.cell gTab j (by rw [List.length_map, hl]; exact hj)
    rw [this]
    simp [List.getD, hl, hj]
  exact ⟨World.block_lt_of_cell? _ _ (hc 0 (by omega)), hc⟩

theorem ok_slice {P : Program} {t0 e : TypeId} (hu : P.underlying t0 = some (.slice e)) {W : World} {base : Nat} {v0 : Value} (hval : ∀ (j : Nat) t v, (#[t0] : Array TypeId)[j]? = some t → #[v0][j]? = some v → Value.okWide P W .any base t v) : ∃ a l c, v0 = .slice a l c :=
  okWide_slice hu (hval 0 t0 v0 rfl rfl)

theorem ok_slice_at {P : Program} {t0 e : TypeId} (hu : P.underlying t0 = some (.slice e)) {W : World} {base : Nat} {ts : Array TypeId} {args : Array Value} (hval : ∀ (j : Nat) t v, ts[j]? = some t → args[j]? = some v → Value.okWide P W .any base t v) (j : Nat) {v : Value} (h1 : ts[j]? = some t0) (h2 : args[j]? = some v) : ∃ a l c, v = .slice a l c := okWide_slice hu (hval j t0 v h1 h2)
theorem ok_int_at {P : Program} {t0 : TypeId} {k : IntKind} (hu : P.underlying t0 = some (.int k)) {W : World} {base : Nat} {ts : Array TypeId} {args : Array Value} (hval : ∀ (j : Nat) t v, ts[j]? = some t → args[j]? = some v → Value.okWide P W .any base t v) (j : Nat) {v : Value} (h1 : ts[j]? = some t0) (h2 : args[j]? = some v) : ∃ z, v = .int k z := okWide_int hu (hval j t0 v h1 h2)
theorem ok_bool_at {P : Program} {t0 : TypeId} (hu : P.underlying t0 = some .bool) {W : World} {base : Nat} {ts : Array TypeId} {args : Array Value} (hval : ∀ (j : Nat) t v, ts[j]? = some t → args[j]? = some v → Value.okWide P W .any base t v) (j : Nat) {v : Value} (h1 : ts[j]? = some t0) (h2 : args[j]? = some v) : ∃ z, v = .bool z := okWide_bool hu (hval j t0 v h1 h2)
/-- The one table that the questions alone want. -/
def lists1 : List (String × DataW Unit) := [("math/bits.deBruijn64tab", Lib.tabData .u8 (Lib.deBruijn64tab.map fun (x : Nat) => (x : Int)))]
theorem bru1 {W : World} (h : laidMet Tryd.prog lists1 W) : Pr.Bru W := by
  have ht := Lib.tabIs_of_head gBru gBruType Tryd.underlying126 Tryd.underlying5 cells8 cellsBru h
  have hc : ∀ j, j < 64 → W.cell? ⟨1, j, none⟩ = some (.int .u8 ((Lib.deBruijn64tab.getD j 0 : Nat) : Int)) := by
    intro j hj
    have hl : Lib.deBruijn64tab.length = 64 := rfl
    have := ht.cell gBru j (by rw [List.length_map, hl]; exact hj)
    rw [this]
    simp [List.getD, hl, hj]
  exact ⟨World.block_lt_of_cell? _ _ (hc 0 (by omega)), hc⟩

/-- The tables put into their blocks. -/
def setTab (w : World) : World :=
  { w with heap := (w.heap.modify 0 fun
      | .cells _ t frozen => .cells #[.int .u32 0, .int .u32 498536548, .int .u32 997073096, .int .u32 651767980, .int .u32 1994146192, .int .u32 1802195444, .int .u32 1303535960, .int .u32 1342533948, .int .u32 3988292384, .int .u32 4027552580, .int .u32 3604390888, .int .u32 3412177804, .int .u32 2607071920, .int .u32 2262029012, .int .u32 2685067896, .int .u32 3183342108] t frozen
      | o => o).modify 1 fun
      | .cells _ t frozen => .cells (Lib.deBruijn64tab.map fun (x : Nat) => Value.int .u8 (x : Int)).toArray t frozen
      | o => o }
end Tb
end Go.Proofs.YtolkjadklbchfaaDoor
