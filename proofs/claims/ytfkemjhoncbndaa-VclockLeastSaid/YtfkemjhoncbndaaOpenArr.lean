/- What a law's arguments are, opened: arrays of three and of four. -/
import Derived.Test.YtfkemjhoncbndaaOpen
namespace Go.Proofs.Ytfkemjhoncbndaa
open Go.ChangeShapes Go.WideShapes Go.ChangeAt Go.RowKit

section
variable {H : Type} {enc : TypeId × Value → H} {P : Program} {W : World}
theorem okWide_array {n : Nat} {e t : TypeId} {r : Reach} {b0 : Nat} {v : Value} (ht : P.underlying t = some (.array n e)) (h : Value.okWide P W r b0 t v) : ∃ cs, v = .agg cs ∧ cs.size = P.cellsOf t := by
  simp only [Value.okWide, ht] at h
  obtain ⟨cs, h1, h2, _⟩ := h
  exact ⟨cs, h1, h2⟩
theorem open_arr3 {t e : TypeId} (ht : P.underlying t = some (.array 3 e)) (hce : P.cellsOf e = 1) (hct : P.cellsOf t = 3) {r : Reach} {b0 : Nat} {v : Value} {d : DataW H} {p : List MemPlace}
    (hval : Value.okWide P W r b0 t v) (hd : DataW.Trod enc P W 0 (fun _ => true) true t v d p) :
    ∃ v0 v1 v2 y0 y1 y2 n, v = .agg #[v0, v1, v2] ∧ DataW.trod enc P W 0 (fun _ => true) true n e [v0] = some y0 ∧ DataW.trod enc P W 0 (fun _ => true) true n e [v1] = some y1 ∧ DataW.trod enc P W 0 (fun _ => true) true n e [v2] = some y2 := by
  obtain ⟨cs, rfl, hsz⟩ := okWide_array ht hval
  rw [hct] at hsz
  obtain ⟨fuel, hf⟩ := hd
  obtain ⟨xs, m, rfl, _, _, hxl, hx⟩ := DataW.trod_array ht hf
  match cs, hsz with
  | ⟨[c0, c1, c2]⟩, _ =>
    have h0 := hx 0 (by omega)
    have h1 := hx 1 (by omega)
    have h2 := hx 2 (by omega)
    rw [hce] at h0 h1 h2
    match xs, hxl with
    | [y0, y1, y2], _ =>
      refine ⟨c0, c1, c2, y0, y1, y2, m, rfl, ?_, ?_, ?_⟩
      · simpa [Value.cells] using h0
      · simpa [Value.cells] using h1
      · simpa [Value.cells] using h2
theorem open_arr4 {t e : TypeId} (ht : P.underlying t = some (.array 4 e)) (hce : P.cellsOf e = 1) (hct : P.cellsOf t = 4) {r : Reach} {b0 : Nat} {v : Value} {d : DataW H} {p : List MemPlace}
    (hval : Value.okWide P W r b0 t v) (hd : DataW.Trod enc P W 0 (fun _ => true) true t v d p) :
    ∃ v0 v1 v2 v3 y0 y1 y2 y3 n, v = .agg #[v0, v1, v2, v3] ∧ DataW.trod enc P W 0 (fun _ => true) true n e [v0] = some y0 ∧ DataW.trod enc P W 0 (fun _ => true) true n e [v1] = some y1 ∧ DataW.trod enc P W 0 (fun _ => true) true n e [v2] = some y2 ∧ DataW.trod enc P W 0 (fun _ => true) true n e [v3] = some y3 := by
  obtain ⟨cs, rfl, hsz⟩ := okWide_array ht hval
  rw [hct] at hsz
  obtain ⟨fuel, hf⟩ := hd
  obtain ⟨xs, m, rfl, _, _, hxl, hx⟩ := DataW.trod_array ht hf
  match cs, hsz with
  | ⟨[c0, c1, c2, c3]⟩, _ =>
    have h0 := hx 0 (by omega)
    have h1 := hx 1 (by omega)
    have h2 := hx 2 (by omega)
    have h3 := hx 3 (by omega)
    rw [hce] at h0 h1 h2 h3
    match xs, hxl with
    | [y0, y1, y2, y3], _ =>
      refine ⟨c0, c1, c2, c3, y0, y1, y2, y3, m, rfl, ?_, ?_, ?_, ?_⟩
      · simpa [Value.cells] using h0
      · simpa [Value.cells] using h1
      · simpa [Value.cells] using h2
      · simpa [Value.cells] using h3
theorem trod_u8 {e : TypeId} (he : P.underlying e = some (.int .u8)) {n : Nat} {v : Value} {y : DataW H × List MemPlace} (h : DataW.trod enc P W 0 (fun _ => true) true n e [v] = some y) : ∃ c : Nat, v = .int .u8 (c : Int) ∧ c < 256 := by
  obtain ⟨a, e1, _, wf⟩ := DataW.trod_int he h
  simp only [List.cons.injEq, and_true] at e1
  obtain ⟨b, rfl, hb⟩ := wf_u8 wf
  exact ⟨b, e1, hb⟩
theorem trod_u16 {e : TypeId} (he : P.underlying e = some (.int .u16)) {n : Nat} {v : Value} {y : DataW H × List MemPlace} (h : DataW.trod enc P W 0 (fun _ => true) true n e [v] = some y) : ∃ c : Nat, v = .int .u16 (c : Int) ∧ c < 65536 := by
  obtain ⟨a, e1, _, wf⟩ := DataW.trod_int he h
  simp only [List.cons.injEq, and_true] at e1
  obtain ⟨b, rfl, hb⟩ := wf_u16 wf
  exact ⟨b, e1, hb⟩
end
end Go.Proofs.Ytfkemjhoncbndaa
