/- What a law's arguments are, opened: an array of two integers. -/
import Derived.Test.YtcekfgahhicdcaaOpen
namespace Go.Proofs.Ytcekfgahhicdcaa
open Go.ChangeShapes Go.WideShapes Go.ChangeAt Go.RowKit

set_option maxRecDepth 100000 in
theorem open_pair {H : Type} {enc : TypeId × Value → H} {W : World} {r : Reach} {b0 : Nat} {v : Value} {d : DataW H} {p : List MemPlace}
    (hval : Value.okWide Try.prog W r b0 50 v) (hd : DataW.Trod enc Try.prog W 0 (fun _ => true) true 50 v d p) :
    ∃ a b : Int, v = .agg #[.int .i64 a, .int .i64 b] := by
  have ht : Try.prog.underlying 50 = some (.array 2 3) := Try.underlying50
  have hv := hval
  simp only [Value.okWide, ht] at hv
  obtain ⟨cs, rfl, hsz, _⟩ := hv
  have hct : Try.prog.cellsOf 50 = 2 := by kernel_rfl
  have hce : Try.prog.cellsOf 3 = 1 := by kernel_rfl
  rw [hct] at hsz
  obtain ⟨fuel, hf⟩ := hd
  obtain ⟨xs, m, rfl, _, _, hxl, hx⟩ := DataW.trod_array ht hf
  match cs, hsz with
  | ⟨[c0, c1]⟩, _ =>
    have h0 := hx 0 (by omega)
    have h1 := hx 1 (by omega)
    rw [hce] at h0 h1
    match xs, hxl with
    | [y0, y1], _ =>
      obtain ⟨z0, e0, _, _⟩ := DataW.trod_int Try.underlying3 (show DataW.trod enc Try.prog W 0 (fun _ => true) true m 3 [c0] = some y0 by simpa [Value.cells] using h0)
      obtain ⟨z1, e1, _, _⟩ := DataW.trod_int Try.underlying3 (show DataW.trod enc Try.prog W 0 (fun _ => true) true m 3 [c1] = some y1 by simpa [Value.cells] using h1)
      simp only [List.cons.injEq, and_true] at e0 e1
      subst e0 e1
      exact ⟨z0, z1, rfl⟩
end Go.Proofs.Ytcekfgahhicdcaa
