/- What a law of orders is handed, opened. -/
import Derived.Test.YtcekfgahhicdcaaPrs
import Derived.Test.YtcekfgahhicdcaaOpen
import Derived.Deep.Slices
namespace Go.Proofs.Ytcekfgahhicdcaa
open Go.ChangeShapes Go.WideShapes Go.ChangeAt Go.RowKit Go.Joins

section
variable {H : Type} {enc : TypeId × Value → H} {P : Program}
theorem open_prsN {t e q : TypeId} (ht : P.underlying t = some (.slice e)) (he : P.underlying e = some (.array 2 q)) (hq : P.underlying q = some (.int .i64)) (ce : P.cellsOf e = 2) (cq : P.cellsOf q = 1) {W : World} {n0 : Nat} {v : Value} {y : DataW H × List MemPlace} (h : DataW.trod enc P W 0 (fun _ => true) true n0 t [v] = some y) :
    ∃ A c es, v = .slice A (es : List (Int × Int)).length c ∧ Prs W (.slice A es.length c) es ∧ es.length ≤ 9223372036854775807 := by
  rcases Deep.open_slice ht h with ⟨hcs, _⟩ | ⟨a, len, cap, m, n', D, Pl, hcs, _, hl, hm, hmm, _, hx⟩
  · simp only [List.cons.injEq, and_true] at hcs
    subst hcs
    exact ⟨none, 0, [], rfl, .inl ⟨rfl, rfl⟩, by simp⟩
  · simp only [List.cons.injEq, and_true] at hcs
    subst hcs
    simp only [if_true] at hmm
    rw [ce] at hx
    have each : ∀ i, i < len → ∃ x : Int × Int, W.cell? (a.add (i * 2)) = some (.int .i64 x.1) ∧ W.cell? ⟨(a.add (i * 2)).block, (a.add (i * 2)).off + 1, none⟩ = some (.int .i64 x.2) := by
      intro i hi
      obtain ⟨cs', h1, h2⟩ := hx i (by omega)
      obtain ⟨_, hlen, hcell⟩ := World.cells?_some h1
      obtain ⟨xs, k, _, _, _, hxl, hxx⟩ := DataW.trod_array he h2
      have g0 := hxx 0 (by omega)
      have g1 := hxx 1 (by omega)
      rw [cq] at g0 g1
      match cs', hlen, xs, hxl with
      | [c0, c1], _, [y0, y1], _ =>
        simp at g0 g1
        obtain ⟨z0, e0, _, _⟩ := DataW.trod_int hq g0
        obtain ⟨z1, e1, _, _⟩ := DataW.trod_int hq g1
        simp at e0 e1
        subst e0 e1
        have d0 := hcell 0 (by omega)
        have d1 := hcell 1 (by omega)
        refine ⟨(z0, z1), ?_, ?_⟩
        · simpa [Addr.add] using d0
        · simpa [Addr.add] using d1
    obtain ⟨V, hV⟩ := Deep.choose_lt each
    have hn : ((List.range len).map V).length = len := by simp
    refine ⟨some a, cap, (List.range len).map V, by rw [hn], ?_, by rw [hn]; unfold maxLen at hm; omega⟩
    rw [hn]
    refine .inr ⟨a, cap, by rw [hn], by rw [hn]; exact hl, fun j x hj => ?_⟩
    rw [List.getElem?_map] at hj
    cases hr : (List.range len)[j]? with
    | none => rw [hr] at hj; cases hj
    | some i =>
      rw [hr] at hj
      cases hj
      have hlt : j < len := by have := (List.getElem?_eq_some_iff.1 hr).1; simpa using this
      rw [List.getElem?_range hlt] at hr
      cases hr
      exact hV j hlt
end
set_option maxRecDepth 100000 in
theorem open_ord {H : Type} {enc : TypeId × Value → H} {W : World} {r : Reach} {b0 : Nat} {v : Value} {d : DataW H} {p : List MemPlace} (hv : Value.okWide Try.prog W r b0 24 v) (h : DataW.Trod enc Try.prog W 0 (fun _ => true) true 24 v d p) :
    ∃ (N : Int) (A : Option Addr) (c : Nat) (es : List (Int × Int)), v = .agg #[.int .i64 N, .slice A es.length c] ∧ Prs W (.slice A es.length c) es ∧ es.length ≤ 9223372036854775807 := by
  obtain ⟨v0, v1, y0, y1, n, rfl, _, _, g0, g1⟩ := open_agg2 Try.underlying24 (by kernel_rfl) (by kernel_rfl) hv h
  obtain ⟨N, e0, _, _⟩ := DataW.trod_int Try.underlying3 g0
  simp only [List.cons.injEq, and_true] at e0
  subst e0
  obtain ⟨A, c, es, rfl, hx, hl⟩ := open_prsN Try.underlying22 Try.underlying50 Try.underlying3 (by kernel_rfl) (by kernel_rfl) g1
  exact ⟨N, A, c, es, rfl, hx, hl⟩
end Go.Proofs.Ytcekfgahhicdcaa
