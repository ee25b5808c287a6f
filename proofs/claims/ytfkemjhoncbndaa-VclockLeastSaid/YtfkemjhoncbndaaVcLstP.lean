/- VclockLeast holds: for every input the law returns true, and its arguments read as before. No condition. -/
import Derived.Test.YtfkemjhoncbndaaVcLst
import Derived.Test.YtfkemjhoncbndaaOpenArr
namespace Go.Proofs.Ytfkemjhoncbndaa
open Go.ChangeShapes Go.WideShapes Go.ChangeAt Go.RowKit Go.Joins

set_option maxRecDepth 100000 in
theorem vclockleast_lifted (os : Os) (started : os.Started) (H : Type) (enc : TypeId × Value → H) :
    ReturnsInHanded {} Try.checked os 7 .any (Rows.vclockLeastSpec.pre6 enc Try.prog Try.f7 Rows.vclockLeastRow.domain false) (Rows.vclockLeastSpec.post enc Try.prog Try.f7 false true false false) := by
  refine returnsInHanded_of_change_sized (C := Try.checked) Try.own started (by kernel_rfl) Try.func7
    (ChangeSpec.witness6 (enc := enc) (C := Try.checked) false ⟨#[], #[.agg #[.int .u16 0, .int .u16 0, .int .u16 0], .agg #[.int .u16 0, .int .u16 0, .int .u16 0], .agg #[.int .u16 0, .int .u16 0, .int .u16 0]], []⟩ 8 (by kernel_rfl) (by kernel_rfl) (by kernel_rfl) (by kernel_rfl)) ?_
  intro W base args ds gs before hval0 hW hcnd hsz0 _
  have hsz : (DataW.weightsEach Try.prog (Try.f7.params.toList ++ Rows.vclockLeastSpec.plain.varTypes Try.prog) (ds ++ gs)).all (· ≤ reachBytes) = true := hsz0
  clear hsz0
  have hval : ∀ (j : Nat) t v, Try.f7.params[j]? = some t → args[j]? = some v → Value.okWide Try.prog W .any base t v := hval0
  have hW' := hW
  obtain ⟨p, q, hA0, hV, rfl, hfz, hnd⟩ := hW
  have hA : DataW.TrodAll enc Try.prog W 0 (fun _ => true) true Try.f7.params.toList args.toList ds p := hA0
  rw [Try.params7] at hA hval hsz
  obtain ⟨v0, v1, v2, d0, d1, d2, p0, p1, p2, rfl, rfl, rfl, h0, h1, h2⟩ := trodAll_three hA
  obtain ⟨rfl, rfl⟩ := trodVars_none hV
  obtain ⟨a0_0, a0_1, a0_2, y0_0, y0_1, y0_2, m0, rfl, g0_0, g0_1, g0_2⟩ := open_arr3 Try.underlying47 (by kernel_rfl) (by kernel_rfl) (hval 0 47 v0 rfl rfl) h0
  obtain ⟨b0_0, rfl, _⟩ := trod_u16 Try.underlying46 g0_0
  obtain ⟨b0_1, rfl, _⟩ := trod_u16 Try.underlying46 g0_1
  obtain ⟨b0_2, rfl, _⟩ := trod_u16 Try.underlying46 g0_2
  obtain ⟨a1_0, a1_1, a1_2, y1_0, y1_1, y1_2, m1, rfl, g1_0, g1_1, g1_2⟩ := open_arr3 Try.underlying47 (by kernel_rfl) (by kernel_rfl) (hval 1 47 v1 rfl rfl) h1
  obtain ⟨b1_0, rfl, _⟩ := trod_u16 Try.underlying46 g1_0
  obtain ⟨b1_1, rfl, _⟩ := trod_u16 Try.underlying46 g1_1
  obtain ⟨b1_2, rfl, _⟩ := trod_u16 Try.underlying46 g1_2
  obtain ⟨a2_0, a2_1, a2_2, y2_0, y2_1, y2_2, m2, rfl, g2_0, g2_1, g2_2⟩ := open_arr3 Try.underlying47 (by kernel_rfl) (by kernel_rfl) (hval 2 47 v2 rfl rfl) h2
  obtain ⟨b2_0, rfl, _⟩ := trod_u16 Try.underlying46 g2_0
  obtain ⟨b2_1, rfl, _⟩ := trod_u16 Try.underlying46 g2_1
  obtain ⟨b2_2, rfl, _⟩ := trod_u16 Try.underlying46 g2_2
  exact (vclockleast_walk b0_0 b0_1 b0_2 b1_0 b1_1 b1_2 b2_0 b2_1 b2_2 W).mono fun e W' hok => law_post Try.laidOut rfl Try.underlying4 (by kernel_rfl) rfl hW' rfl hok

theorem vclockleast_holds : Rows.VclockLeastSaid :=
  OpenClaim.holds_of_wide 7 Try.f7 rfl rfl rfl rfl rfl rfl rfl ⟨rfl, rfl, rfl, rfl, rfl⟩ rfl rfl rfl rfl rfl (by kernel_rfl) Try.func7 (by kernel_rfl)
    (of_decide_eq_true (by kernel_rfl)) (by unfold Func.isWrapper; first | (rw [if_pos (by decide +kernel)]; kernel_rfl) | (rw [if_neg (by decide +kernel)]; exact ⟨rfl, rfl⟩))
    (fun os started H enc _ => vclockleast_lifted os started H enc)
end Go.Proofs.Ytfkemjhoncbndaa

