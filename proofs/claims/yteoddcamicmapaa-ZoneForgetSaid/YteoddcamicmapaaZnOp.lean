/- What the laws of zones are handed, opened. -/
import Derived.Test.YteoddcamicmapaaZnSt
import Derived.Test.YteoddcamicmapaaOpen
import Derived.Deep.Slices
import Derived.Deep.Strs
namespace Go.Proofs.Yteoddcamicmapaa
open Go.ChangeShapes Go.WideShapes Go.ChangeAt Go.RowKit Go.Joins

section
variable {H : Type} {enc : TypeId × Value → H} {P : Program} {W : World}
theorem sl_range {α : Type} {f : α → Value} {a : Addr} {len cap : Nat} (hl : len ≤ cap) (V : Nat → α) (h : ∀ i, i < len → W.cell? (a.add i) = some (f (V i))) : Sl f W (.slice (some a) ((List.range len).map V).length cap) ((List.range len).map V) := by
  have hn : ((List.range len).map V).length = len := by simp
  refine .inr ⟨a, cap, rfl, by omega, fun j b hj => ?_⟩
  rw [List.getElem?_map] at hj
  cases hr : (List.range len)[j]? with
  | none => rw [hr] at hj; cases hj
  | some i =>
    rw [hr] at hj
    cases hj
    have hlt : j < len := by have := (List.getElem?_eq_some_iff.1 hr).1; simpa using this
    rw [List.getElem?_range hlt] at hr
    cases hr
    exact h j hlt
theorem open_intsN {t e : TypeId} (ht : P.underlying t = some (.slice e)) (he : P.underlying e = some (.int .i64)) (hc : P.cellsOf e = 1) {n : Nat} {v : Value} {y : DataW H × List MemPlace} (h : DataW.trod enc P W 0 (fun _ => true) true n t [v] = some y) :
    ∃ A c l, v = .slice A (l : List Int).length c ∧ Sl iv W (.slice A l.length c) l ∧ l.length ≤ 9223372036854775807 := by
  rcases Deep.open_slice1 ht hc h with ⟨hcs, _⟩ | ⟨a, len, cap, m, n', V, D, Pl, hcs, _, hl, hm, hmm, _, hx⟩
  · simp only [List.cons.injEq, and_true] at hcs
    subst hcs
    exact ⟨none, 0, [], rfl, .inl ⟨rfl, rfl⟩, by simp⟩
  · simp only [List.cons.injEq, and_true] at hcs
    subst hcs
    simp only [if_true] at hmm
    have each : ∀ i, i < len → ∃ z : Int, W.cell? (a.add i) = some (iv z) := fun i hi => by
      obtain ⟨h1, h2⟩ := hx i (by omega)
      obtain ⟨z, e0, _, _⟩ := DataW.trod_int he h2
      simp only [List.cons.injEq, and_true] at e0
      exact ⟨z, by rw [h1, e0]; rfl⟩
    obtain ⟨V', hV⟩ := Deep.choose_lt each
    exact ⟨some a, cap, (List.range len).map V', by simp, sl_range hl V' hV, by simp only [List.length_map, List.length_range]; unfold maxLen at hm; omega⟩
theorem open_zonesN {t e tI tL : TypeId} {f0 f1 : Field} (ht : P.underlying t = some (.slice e)) (he : P.underlying e = some (.struct #[f0, f1])) (hce : P.cellsOf e = 2)
    (o0 : f0.offset = 0) (o1 : f1.offset = 1) (t0 : f0.type = tI) (t1 : f1.type = tL) (u0 : P.underlying tI = some (.int .i64)) (u1 : P.underlying tL = some (.slice tI)) (k0 : P.cellsOf tI = 1) (k1 : P.cellsOf tL = 1) {n : Nat} {v : Value} {y : DataW H × List MemPlace} (h : DataW.trod enc P W 0 (fun _ => true) true n t [v] = some y) :
    ∃ zs, Zs W v zs := by
  rcases Deep.open_slice ht h with ⟨hcs, _⟩ | ⟨a, len, cap, m, n', D, Pl, hcs, _, hl, hm, hmm, _, hx⟩
  · simp only [List.cons.injEq, and_true] at hcs
    subst hcs
    exact ⟨[], .inl ⟨rfl, rfl⟩⟩
  · simp only [List.cons.injEq, and_true] at hcs
    subst hcs
    simp only [if_true] at hmm
    rw [hce] at hx
    have each : ∀ i, i < len → ∃ z : Int × List Int, z.2.length ≤ 9223372036854775807 ∧ ∃ A c', W.cell? (a.add (i * 2)) = some (.int .i64 z.1) ∧ W.cell? ⟨(a.add (i * 2)).block, (a.add (i * 2)).off + 1, none⟩ = some (.slice A z.2.length c') ∧ Sl iv W (.slice A z.2.length c') z.2 := by
      intro i hi
      obtain ⟨cs', h1, h2⟩ := hx i (by omega)
      obtain ⟨_, hlen, hcell⟩ := World.cells?_some h1
      obtain ⟨y0, y1, q, _, _, g0, g1⟩ := trod_struct2 he h2
      match cs', hlen with
      | [c0, c1], _ =>
        rw [o0, t0, k0] at g0
        rw [o1, t1, k1] at g1
        obtain ⟨z0, e0, _, w0⟩ := DataW.trod_int u0 g0
        simp at e0 g1
        subst e0
        obtain ⟨A, c', l, rfl, hs, hl2⟩ := open_intsN u1 u0 k0 g1
        have d0 := hcell 0 (by omega)
        have d1 := hcell 1 (by omega)
        refine ⟨(z0, l), hl2, A, c', ?_, ?_, hs⟩
        · simpa [Addr.add] using d0
        · simpa [Addr.add] using d1
    obtain ⟨V, hV⟩ := Deep.choose_lt each
    have hn : ((List.range len).map V).length = len := by simp
    refine ⟨(List.range len).map V, .inr ⟨a, cap, by rw [hn], by rw [hn]; exact hl, fun j x hj => ?_⟩⟩
    rw [List.getElem?_map] at hj
    cases hr : (List.range len)[j]? with
    | none => rw [hr] at hj; cases hj
    | some i =>
      rw [hr] at hj
      cases hj
      have hlt : j < len := by have := (List.getElem?_eq_some_iff.1 hr).1; simpa using this
      rw [List.getElem?_range hlt] at hr
      cases hr
      exact hV j hlt
end
set_option maxRecDepth 100000 in
theorem open_zones {H : Type} {enc : TypeId × Value → H} {W : World} {r : Reach} {b0 : Nat} {v : Value} {d : DataW H} {p : List MemPlace} (hv : Value.okWide Try.prog W r b0 64 v) (h : DataW.Trod enc Try.prog W 0 (fun _ => true) true 64 v d p) : ∃ zs, Zs W v zs := by
  obtain ⟨a0, len, cap, rfl⟩ := okWide_slice Try.underlying64 hv
  obtain ⟨fuel, hf⟩ := h
  exact open_zonesN (tI := 3) (tL := 22) Try.underlying64 Try.underlying24 (by kernel_rfl) rfl rfl rfl rfl Try.underlying3 Try.underlying22 (by kernel_rfl) (by kernel_rfl) hf
set_option maxRecDepth 100000 in
theorem open_zone {H : Type} {enc : TypeId × Value → H} {W : World} {r : Reach} {b0 : Nat} {v : Value} {d : DataW H} {p : List MemPlace} (hv : Value.okWide Try.prog W r b0 24 v) (h : DataW.Trod enc Try.prog W 0 (fun _ => true) true 24 v d p) :
    ∃ (N : Int) (A : Option Addr) (c : Nat) (b : List Int), v = .agg #[.int .i64 N, .slice A b.length c] ∧ Sl iv W (.slice A b.length c) b ∧ b.length ≤ 9223372036854775807 := by
  obtain ⟨v0, v1, y0, y1, n, rfl, _, _, g0, g1⟩ := open_agg2 Try.underlying24 (by kernel_rfl) (by kernel_rfl) hv h
  obtain ⟨N, e0, _, _⟩ := DataW.trod_int Try.underlying3 g0
  simp only [List.cons.injEq, and_true] at e0
  subst e0
  obtain ⟨A, c, b, rfl, hx, hl⟩ := open_intsN Try.underlying22 Try.underlying3 (by kernel_rfl) g1
  exact ⟨N, A, c, b, rfl, hx, hl⟩
end Go.Proofs.Yteoddcamicmapaa
