/- The contract of the reference's Same: two byte strings. -/
import Derived.Test.YtlimaefgifgegaaWireNew
import Derived.Laws.BytesArg
namespace Go.Proofs.Ytlimaefgifgegaa
open Go.RowKit

set_option maxHeartbeats 400000 in
theorem same_any (v1 v2 : Value) (xs ys : List Nat) (w : World) (h1 : Bsl w v1 xs) (h2 : Bsl w v2 ys) (b1 : Byt xs) (b2 : Byt ys) (b : Bool) (hb : b = decide (xs = ys)) :
    Calls Try.prog 25 #[v1, v2] w fun e w' => e = .returned (.bool b) ∧ w = w' := by
  have r1 := run_str (P := Try.prog) w 24 5 9 Try.underlying24 Try.underlying5 Try.underlying9 v1 xs h1
  have r2 := run_str (P := Try.prog) w 24 5 9 Try.underlying24 Try.underlying5 Try.underlying9 v2 ys h2
  go_enter Try.func25, Try.ntmps25
  go_wp2
  go_ret
  refine ⟨?_, rfl⟩
  show Ending.returned (.bool ((strOf xs).toList == (strOf ys).toList)) = _
  rw [strOf_beq b1 b2, hb]
end Go.Proofs.Ytlimaefgifgegaa
