/- VclockOrder holds: for every input the law returns true, and its arguments read as before. No condition. -/
import Derived.Test.YtfkemjhoncbndaaVcOrd
import Derived.Test.YtfkemjhoncbndaaOpenArr
namespace Go.Proofs.Ytfkemjhoncbndaa
open Go.ChangeShapes Go.WideShapes Go.ChangeAt Go.RowKit Go.Joins

set_option maxRecDepth 100000 in
theorem vclockorder_lifted (os : Os) (started : os.Started) (H : Type) (enc : TypeId × Value → H) :
    ReturnsInHanded {} Try.checked os 6 .any (Rows.vclockOrderSpec.pre6 enc Try.prog Try.f6 Rows.vclockOrderRow.domain false) (Rows.vclockOrderSpec.post enc Try.prog Try.f6 false true false false) := by
  refine returnsInHanded_of_change_sized (C := Try.checked) Try.own started (by kernel_rfl) Try.func6
    (ChangeSpec.witness6 (enc := enc) (C := Try.checked) false ⟨#[], #[.agg #[.int .u8 0, .int .u8 0, .int .u8 0, .int .u8 0], .agg #[.int .u8 0, .int .u8 0, .int .u8 0, .int .u8 0], .agg #[.int .u8 0, .int .u8 0, .int .u8 0, .int .u8 0]], []⟩ 8 (by kernel_rfl) (by kernel_rfl) (by kernel_rfl) (by kernel_rfl)) ?_
  intro W base args ds gs before hval0 hW hcnd hsz0 _
  have hsz : (DataW.weightsEach Try.prog (Try.f6.params.toList ++ Rows.vclockOrderSpec.plain.varTypes Try.prog) (ds ++ gs)).all (· ≤ reachBytes) = true := hsz0
  clear hsz0
  have hval : ∀ (j : Nat) t v, Try.f6.params[j]? = some t → args[j]? = some v → Value.okWide Try.prog W .any base t v := hval0
  have hW' := hW
  obtain ⟨p, q, hA0, hV, rfl, hfz, hnd⟩ := hW
  have hA : DataW.TrodAll enc Try.prog W 0 (fun _ => true) true Try.f6.params.toList args.toList ds p := hA0
  rw [Try.params6] at hA hval hsz
  obtain ⟨v0, v1, v2, d0, d1, d2, p0, p1, p2, rfl, rfl, rfl, h0, h1, h2⟩ := trodAll_three hA
  obtain ⟨rfl, rfl⟩ := trodVars_none hV
  obtain ⟨a0_0, a0_1, a0_2, a0_3, y0_0, y0_1, y0_2, y0_3, m0, rfl, g0_0, g0_1, g0_2, g0_3⟩ := open_arr4 Try.underlying43 (by kernel_rfl) (by kernel_rfl) (hval 0 43 v0 rfl rfl) h0
  obtain ⟨b0_0, rfl, _⟩ := trod_u8 Try.underlying5 g0_0
  obtain ⟨b0_1, rfl, _⟩ := trod_u8 Try.underlying5 g0_1
  obtain ⟨b0_2, rfl, _⟩ := trod_u8 Try.underlying5 g0_2
  obtain ⟨b0_3, rfl, _⟩ := trod_u8 Try.underlying5 g0_3
  obtain ⟨a1_0, a1_1, a1_2, a1_3, y1_0, y1_1, y1_2, y1_3, m1, rfl, g1_0, g1_1, g1_2, g1_3⟩ := open_arr4 Try.underlying43 (by kernel_rfl) (by kernel_rfl) (hval 1 43 v1 rfl rfl) h1
  obtain ⟨b1_0, rfl, _⟩ := trod_u8 Try.underlying5 g1_0
  obtain ⟨b1_1, rfl, _⟩ := trod_u8 Try.underlying5 g1_1
  obtain ⟨b1_2, rfl, _⟩ := trod_u8 Try.underlying5 g1_2
  obtain ⟨b1_3, rfl, _⟩ := trod_u8 Try.underlying5 g1_3
  obtain ⟨a2_0, a2_1, a2_2, a2_3, y2_0, y2_1, y2_2, y2_3, m2, rfl, g2_0, g2_1, g2_2, g2_3⟩ := open_arr4 Try.underlying43 (by kernel_rfl) (by kernel_rfl) (hval 2 43 v2 rfl rfl) h2
  obtain ⟨b2_0, rfl, _⟩ := trod_u8 Try.underlying5 g2_0
  obtain ⟨b2_1, rfl, _⟩ := trod_u8 Try.underlying5 g2_1
  obtain ⟨b2_2, rfl, _⟩ := trod_u8 Try.underlying5 g2_2
  obtain ⟨b2_3, rfl, _⟩ := trod_u8 Try.underlying5 g2_3
  exact (vclockorder_walk b0_0 b0_1 b0_2 b0_3 b1_0 b1_1 b1_2 b1_3 b2_0 b2_1 b2_2 b2_3 W).mono fun e W' hok => law_post Try.laidOut rfl Try.underlying4 (by kernel_rfl) rfl hW' rfl hok

theorem vclockorder_holds : Rows.VclockOrderSaid :=
  OpenClaim.holds_of_wide 6 Try.f6 rfl rfl rfl rfl rfl rfl rfl ⟨rfl, rfl, rfl, rfl, rfl⟩ rfl rfl rfl rfl rfl (by kernel_rfl) Try.func6 (by kernel_rfl)
    (of_decide_eq_true (by kernel_rfl)) (by unfold Func.isWrapper; first | (rw [if_pos (by decide +kernel)]; kernel_rfl) | (rw [if_neg (by decide +kernel)]; exact ⟨rfl, rfl⟩))
    (fun os started H enc _ => vclockorder_lifted os started H enc)
end Go.Proofs.Ytfkemjhoncbndaa

