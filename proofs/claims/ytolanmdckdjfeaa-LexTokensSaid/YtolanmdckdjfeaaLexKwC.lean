/- Layer 9: the list of keywords in memory. -/
import Derived.Test.YtolanmdckdjfeaaLexWd
namespace Go.Proofs.Ytolanmdckdjfeaa
open Go.RowKit

def kwCells : Array Value := (kws.map fun l => Value.string (ofL l)).toArray
theorem keywords_any (w : World) : Calls Try.prog 22 #[] w fun e w' => e = .returned (.slice (some ⟨w.heap.size, 0, none⟩) 28 28) ∧ w' = w.alloc (.cells kwCells 9) := by
  go_enter Try.func22, Try.ntmps22
  go_wp2
  go_ret
  exact ⟨rfl, rfl⟩
end Go.Proofs.Ytolanmdckdjfeaa
