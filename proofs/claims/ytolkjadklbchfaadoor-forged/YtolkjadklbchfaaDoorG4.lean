import Derived.Test.YtolkjadklbchfaaDoorG2
import Derived.Test.YtolkjadklbchfaaDoorG3
/- Walks: Marks. -/
open Go Go.RowKit
namespace Go.Proofs.YtolkjadklbchfaaDoor
namespace Rf
open Mem

def NI (ms : List Nat) : List Int := ms.map fun (x : Nat) => (x : Int)
theorem NI_at (ms : List Nat) (k : Nat) (h : k < ms.length) : (I64 (NI ms))[k]? = some (.int .i64 (ms[k] : Int)) := by simp [I64, NI, h]
theorem NI_len (ms : List Nat) : (I64 (NI ms)).length = ms.length := by simp [I64, NI]

theorem powTo_le (n m f q : Nat) : Sp.powTo n m f q ≤ q + f := by
  induction f generalizing q with
  | zero => simp [Sp.powTo]
  | succ f ih =>
    unfold Sp.powTo
    split
    · have := ih (q + 1); omega
    · omega
theorem pow_le (n m : Nat) : Sp.pow n m ≤ n := by have := powTo_le n m n 0; unfold Sp.pow; omega

theorem lows_snoc {q : Nat} {ms : List Nat} {i : Nat} (h : i < ms.length) : Sp.lows q (ms.take (i + 1)) = Sp.lows q (ms.take i) ++ Sp.low ms[i] q := by
  unfold Sp.lows
  rw [take_snoc _ _ h, List.flatMap_append]
  congr 1
  simp

theorem made_false (k : Nat) : (madeCells (Value.bool false).cells (k * 1)).toList = Bo (List.replicate k false) := by
  show (madeCells #[Value.bool false] (k * 1)).toList = _
  rw [toList_madeCells_one, Nat.mul_one]
  simp [Bo]
theorem Bo_set (xs : List Bool) (j : Nat) (y : Bool) : Bo (xs.set j y) = (Bo xs).set j (.bool y) := by simp [Bo, List.map_set]

end Rf
end Go.Proofs.YtolkjadklbchfaaDoor
/- Walks: Encode of the document. -/
open Go Go.RowKit
namespace Go.Proofs.YtolkjadklbchfaaDoor
namespace Rf
open Mem

/-- What a call gives: a row of bytes or bools of its own; nothing old has turned. -/
def Gives (w : World) (t : TypeId) (xs : List Value) (e : Ending) (w' : World) : Prop := ∃ v, e = .returned v ∧ w'.ownsRow w.heap.size t 1 v xs.length xs ∧ Below w.heap.size w w'

theorem layers_small {vs : List Nat} (hv : ∀ x ∈ vs, x < 18446744073709551616) (hn : vs.length ≤ 1000) : (Sp.layers vs).length ≤ 64000 := by
  unfold Sp.layers
  rw [Sp.lay_len]
  exact Nat.mul_le_mul (Sp.widthOf_le vs hv) hn
theorem brackets_small {vs : List Nat} (hn : vs.length ≤ 1000) : (Sp.brackets vs).length ≤ 2000 := by
  unfold Sp.brackets
  rw [Sp.brk_len]
  simp
  omega
theorem marks_small {n : Nat} {ms : List Nat} (hn : n ≤ 1000) (hm : ms.length ≤ 1000) : (Sp.marks n ms).length ≤ 1002001 := by
  unfold Sp.marks Sp.high
  rw [List.length_append, Sp.lows_len, Sp.highTo_len]
  have h1 : ms.length * Sp.pow n ms.length ≤ 1000 * 1000 := Nat.mul_le_mul hm (Nat.le_trans (pow_le _ _) hn)
  have h2 : n / 2 ^ Sp.pow n ms.length ≤ n := Nat.div_le_self _ _
  omega

theorem head_rd (w : World) (wd n m : Nat) : Rd (w.heap.size + 1) (w.alloc (.cells #[Value.int .u8 83, .int .u8 84, .int .u8 82, .int .u8 65, .int .u8 1, .int .u8 (wd : Int), .int .u8 ((n : Int) % 256), .int .u8 ((n : Int) / 256), .int .u8 ((m : Int) % 256), .int .u8 ((m : Int) / 256)] 5))
    (.slice (some ⟨w.heap.size, 0, none⟩) 10 10) (By (Sp.head wd n m)) := by
  have h := Rd.lit w (By (Sp.head wd n m)) 5
  simpa [By, Sp.head] using h
theorem head_lt {wd n m : Nat} (hw : wd ≤ 64) (hn : n ≤ 1000) (hm : m ≤ 1000) : ∀ x ∈ Sp.head wd n m, x < 256 := by
  intro x hx
  simp [Sp.head] at hx
  omega

end Rf
end Go.Proofs.YtolkjadklbchfaaDoor
