/- Walks of the law: Builds. -/
import Derived.Test.YtmefkcbchpjeoaaDoorLwK
open Go Go.RowKit
namespace Go.Proofs.YtmefkcbchpjeoaaDoor
namespace Lw
open Mem Rf Pr

set_option maxHeartbeats 4000000 in
theorem builds_any (w : World) (ps : Option Addr) (L cs : Nat) (ds : List OpD) (hs : Scr w.heap.size w ps ds) (hL : L = ds.length) (hL2 : L ≤ 1200000000000) (hT : Tab w) :
    Calls Tryd.prog 3 #[.slice ps L cs] w fun e w' => e = .returned (.bool true) ∧ Below w.heap.size w w' := by
  have HP := hide (plays_any w ps L cs ds hs hL hL2 hT)
  clear hs hT hL hL2
  go_enter Tryd.func3, Tryd.ntmps3
  go_wp2_with fail
  refine (unhide HP).mono ?_
  rintro e w1 ⟨rfl, hb⟩
  have HB := hide hb
  clear hb HP
  go_wp2
  all_goals go_ret
  all_goals exact ⟨rfl, unhide HB⟩
end Lw
end Go.Proofs.YtmefkcbchpjeoaaDoor
