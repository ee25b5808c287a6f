/- What a law's arguments are, opened: slices of api.Value, arrays of two. -/
import Derived.Test.YtlbgfjgpdjcogaaVals
import Derived.Test.YtlbgfjgpdjcogaaOpen
import Derived.Deep.Slices
import Derived.Deep.Strs
namespace Go.Proofs.Ytlbgfjgpdjcogaa
open Go.ChangeShapes Go.WideShapes Go.ChangeAt Go.RowKit

section
variable {H : Type} {enc : TypeId × Value → H} {P : Program} {W : World}
theorem okWide_array {n : Nat} {e t : TypeId} {r : Reach} {b0 : Nat} {v : Value} (ht : P.underlying t = some (.array n e)) (h : Value.okWide P W r b0 t v) : ∃ cs, v = .agg cs ∧ cs.size = P.cellsOf t := by
  simp only [Value.okWide, ht] at h
  obtain ⟨cs, h1, h2, _⟩ := h
  exact ⟨cs, h1, h2⟩
theorem open_arr2 {t e : TypeId} (ht : P.underlying t = some (.array 2 e)) (hce : P.cellsOf e = 1) (hct : P.cellsOf t = 2) {r : Reach} {b0 : Nat} {v : Value} {d : DataW H} {p : List MemPlace}
    (hval : Value.okWide P W r b0 t v) (hd : DataW.Trod enc P W 0 (fun _ => true) true t v d p) :
    ∃ v0 v1 y0 y1 n, v = .agg #[v0, v1] ∧ DataW.trod enc P W 0 (fun _ => true) true n e [v0] = some y0 ∧ DataW.trod enc P W 0 (fun _ => true) true n e [v1] = some y1 := by
  obtain ⟨cs, rfl, hsz⟩ := okWide_array ht hval
  rw [hct] at hsz
  obtain ⟨fuel, hf⟩ := hd
  obtain ⟨xs, m, rfl, _, _, hxl, hx⟩ := DataW.trod_array ht hf
  match cs, hsz with
  | ⟨[c0, c1]⟩, _ =>
    have h0 := hx 0 (by omega)
    have h1 := hx 1 (by omega)
    rw [hce] at h0 h1
    match xs, hxl with
    | [y0, y1], _ =>
      refine ⟨c0, c1, y0, y1, m, rfl, ?_, ?_⟩
      · simpa [Value.cells] using h0
      · simpa [Value.cells] using h1
theorem open_vals {t e tK tN tS : TypeId} {f0 f1 f2 : Field} (ht : P.underlying t = some (.slice e)) (he : P.underlying e = some (.struct #[f0, f1, f2])) (hce : P.cellsOf e = 3)
    (o0 : f0.offset = 0) (o1 : f1.offset = 1) (o2 : f2.offset = 2) (t0 : f0.type = tK) (t1 : f1.type = tN) (t2 : f2.type = tS) (u0 : P.underlying tK = some (.int .i64)) (u1 : P.underlying tN = some (.int .i64)) (u2 : P.underlying tS = some .string)
    (k0 : P.cellsOf tK = 1) (k1 : P.cellsOf tN = 1) (k2 : P.cellsOf tS = 1) {n : Nat} {v : Value} {y : DataW H × List MemPlace} (h : DataW.trod enc P W 0 (fun _ => true) true n t [v] = some y) :
    ∃ A c l, v = .slice A l.length c ∧ Vals W (.slice A l.length c) l ∧ l.length ≤ 9223372036854775807 ∧ ∀ x ∈ l, VlOk x := by
  rcases Deep.open_slice ht h with ⟨hcs, _⟩ | ⟨a, len, cap, m, n', D, Pl, hcs, _, hl, hm, hmm, _, hx⟩
  · simp only [List.cons.injEq, and_true] at hcs
    subst hcs
    exact ⟨none, 0, [], rfl, .inl ⟨rfl, rfl⟩, by simp, by intro x hx; cases hx⟩
  · simp only [List.cons.injEq, and_true] at hcs
    subst hcs
    simp only [if_true] at hmm
    rw [hce] at hx
    have each : ∀ i, i < len → ∃ x : Vl, Vcell W (a.add (i * 3)) x ∧ VlOk x := by
      intro i hi
      obtain ⟨cs', h1, h2⟩ := hx i (by omega)
      obtain ⟨_, hlen, hcell⟩ := World.cells?_some h1
      obtain ⟨y0, y1, y2, q, _, _, g0, g1, g2⟩ := Deep.trod_struct3 he h2
      match cs', hlen with
      | [c0, c1, c2], _ =>
        rw [o0, t0, k0] at g0
        rw [o1, t1, k1] at g1
        rw [o2, t2, k2] at g2
        obtain ⟨z0, e0, _, w0⟩ := DataW.trod_int u0 g0
        obtain ⟨z1, e1, _, w1⟩ := DataW.trod_int u1 g1
        obtain ⟨s, e2, _, w2⟩ := DataW.trod_string u2 g2
        simp at e0 e1 e2
        subst e0 e1 e2
        have d0 := hcell 0 (by omega)
        have d1 := hcell 1 (by omega)
        have d2 := hcell 2 (by omega)
        refine ⟨(z0, z1, s), ⟨?_, ?_, ?_⟩, wf_i64 w0, wf_i64 w1, by unfold maxLen at w2; exact w2⟩
        · simpa [Addr.add] using d0
        · simpa [Addr.add] using d1
        · simpa [Addr.add] using d2
    obtain ⟨V, hV⟩ := Deep.choose_lt each
    have hn : ((List.range len).map V).length = len := by simp
    refine ⟨some a, cap, (List.range len).map V, by rw [hn], ?_, by rw [hn]; unfold maxLen at hm; omega, ?_⟩
    · rw [hn]
      refine .inr ⟨a, cap, by rw [hn], by rw [hn]; exact hl, fun j x hj => ?_⟩
      rw [List.getElem?_map] at hj
      cases hr : (List.range len)[j]? with
      | none => rw [hr] at hj; cases hj
      | some i =>
        rw [hr] at hj
        cases hj
        have hlt : j < len := by have := (List.getElem?_eq_some_iff.1 hr).1; simpa using this
        rw [List.getElem?_range hlt] at hr
        cases hr
        exact (hV j hlt).1
    · intro x hx
      obtain ⟨i, hi, rfl⟩ := List.mem_map.1 hx
      exact (hV i (List.mem_range.1 hi)).2
end
end Go.Proofs.Ytlbgfjgpdjcogaa
