/- The contract of the law's joined: two byte strings, one behind the other, in a row of its own. -/
import Derived.Test.YtlimaefgifgegaaWireMid
namespace Go.Proofs.Ytlimaefgifgegaa
open Go.RowKit
set_option maxHeartbeats 400000 in
theorem joined_any (v1 v2 : Value) (xs ys : List Nat) (w : World) (h1 : Bsl w v1 xs) (h2 : Bsl w v2 ys) (l1 : xs.length ≤ 1000000) (l2 : ys.length ≤ 1000000) :
    Calls Try.prog 14 #[v1, v2] w fun e w' => ∃ v', e = .returned v' ∧ Bsl w' v' (xs ++ ys) ∧ Below w.heap.size w w' := by
  have H1 := Lib.hid h1; have H2 := Lib.hid h2; clear h1 h2
  go_enter Try.func14, Try.ntmps14
  go_wp2_with (first
    | (at_builtin; refine appB rfl (.tmp 7) (.tmp 8) 24 rfl info_u8 Try.underlying24 w.heap.size va _ _ rfl HA.out _ ys rfl (H2.out.below FA.out) (by unfold Room2; omega) FA.out.size ?_; intro vb wb hownb hfb; have FB := Lib.hid (FA.out.trans (hfb.below FA.out.size)); have HB := Lib.hid hownb; clear hownb hfb)
    | (at_builtin; refine appB rfl (.tmp 5) (.tmp 6) 24 rfl info_u8 Try.underlying24 w.heap.size _ 0 [] rfl (own_lit w #[] 0 [] rfl rfl (by decide)) _ xs rfl (H1.out.alloc _) (by unfold Room2; omega) (by simp) ?_; intro va wa howna hfa; have FA := Lib.hid (((Below.refl _ w).alloc (Nat.le_refl _) (.cells #[] 5)).trans (hfa.below (by simp))); have HA := Lib.hid howna; clear howna hfa))
  go_ret
  refine ⟨_, rfl, Bsl.of_own (B := w.heap.size) (n := 0 + xs.length + ys.length) ?_, FB.out⟩
  have := HB.out
  rw [List.map_append]
  simpa using this
end Go.Proofs.Ytlimaefgifgegaa
