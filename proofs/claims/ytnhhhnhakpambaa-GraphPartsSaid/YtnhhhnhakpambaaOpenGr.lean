/- What a law's arguments are, opened: slices of slices of integers. -/
import Derived.Test.YtnhhhnhakpambaaGr
import Derived.Test.YtnhhhnhakpambaaOpen
import Derived.Deep.Matrix
namespace Go.Proofs.Ytnhhhnhakpambaa
open Go.ChangeShapes Go.WideShapes Go.ChangeAt Go.RowKit

section
variable {H : Type} {enc : TypeId × Value → H} {P : Program}
theorem open_gr {t e q : TypeId} (ht : P.underlying t = some (.slice e)) (he : P.underlying e = some (.slice q)) (hq : P.underlying q = some (.int .i64)) (ce : P.cellsOf e = 1) (cq : P.cellsOf q = 1) (hby : P.bytesOf e = 24) {W : World} {r : Reach} {b0 : Nat} {v : Value} {d : DataW H} {p : List MemPlace}
    {ts : List TypeId} {ds : List (DataW H)} (hsz : (DataW.weightsEach P ts ds).all (· ≤ reachBytes) = true) (j : Nat) (htj : ts[j]? = some t) (hdj : ds[j]? = some d)
    (hval : Value.okWide P W r b0 t v) (h0 : DataW.Trod enc P W 0 (fun _ => true) true t v d p) :
    ∃ A c g, v = .slice A (g : List (List Int)).length c ∧ Gr iv W (.slice A g.length c) g ∧ g.length ≤ 17592186044000 := by
  obtain ⟨a0, len, cap, rfl⟩ := okWide_slice ht hval
  obtain ⟨fuel, hf⟩ := h0
  rcases Deep.open_int_rows ht he hq ce cq hf with ⟨hcs, _⟩ | ⟨a, len', cap', A, L, C, Z, hcs, _, hl, hm, hd, hrow⟩
  · simp [Value.cells] at hcs
    obtain ⟨rfl, rfl, rfl⟩ := hcs
    exact ⟨none, 0, [], rfl, Gr.nil, by simp⟩
  · simp [Value.cells] at hcs
    obtain ⟨rfl, rfl, rfl⟩ := hcs
    simp only [Prod.mk.injEq] at hd
    obtain ⟨rfl, _⟩ := hd
    have hreach := sized_slice hsz htj hdj ht
    rw [hby] at hreach
    simp only [List.length_map, List.length_range, reachBytes] at hreach
    have hn : ((List.range len).map fun r => (Z r).take (L r)).length = len := by simp
    refine ⟨some a, cap, (List.range len).map fun r => (Z r).take (L r), by rw [hn], ?_, by omega⟩
    rw [hn]
    refine ⟨(List.range len).map fun r => .slice (A r) (L r) (C r), .inr ⟨a, cap, by simp, by simpa using hl, fun j b hj => ?_⟩, by simp, fun i x l hx hll => ?_⟩
    · rw [List.getElem?_map] at hj
      cases hr : (List.range len)[j]? with
      | none => rw [hr] at hj; cases hj
      | some i =>
        rw [hr] at hj
        cases hj
        have hlt : j < len := by have := (List.getElem?_eq_some_iff.1 hr).1; simpa using this
        rw [List.getElem?_range hlt] at hr
        cases hr
        exact (hrow j (by omega)).1
    · rw [List.getElem?_map] at hx hll
      cases hr : (List.range len)[i]? with
      | none => rw [hr] at hx; cases hx
      | some k =>
        rw [hr] at hx hll
        cases hx; cases hll
        have hlt : i < len := by have := (List.getElem?_eq_some_iff.1 hr).1; simpa using this
        rw [List.getElem?_range hlt] at hr
        cases hr
        obtain ⟨_, h2, h3, h4, h5, h6, h7⟩ := hrow i (by omega)
        cases hA : A i with
        | none =>
          have h8 := h6 hA
          have h9 : L i = 0 := by omega
          exact .inl ⟨by show Value.slice (A i) (L i) (C i) = _; rw [hA, h8, h9], by show (Z i).take (L i) = []; rw [h9]; rfl⟩
        | some a' =>
          obtain ⟨_, h9⟩ := h7 a' hA
          have hzl : ((Z i).take (L i)).length = L i := by rw [List.length_take]; omega
          refine .inr ⟨a', C i, by show Value.slice (A i) (L i) (C i) = _; rw [hA, hzl], by rw [hzl]; exact h2, fun j b hj => ?_⟩
          change ((Z i).take (L i))[j]? = some b at hj
          have hjl : j < L i := by have := (List.getElem?_eq_some_iff.1 hj).1; omega
          rw [List.getElem?_take, if_pos hjl] at hj
          rw [h9 j (by omega), List.getD_eq_getElem?_getD, hj]
          rfl
theorem open_nums {t e : TypeId} (ht : P.underlying t = some (.slice e)) (he : P.underlying e = some (.int .i64)) (hc : P.cellsOf e = 1) (hby : P.bytesOf e = 8) {W : World} {r : Reach} {b0 : Nat} {v : Value} {d : DataW H} {p : List MemPlace}
    {ts : List TypeId} {ds : List (DataW H)} (hsz : (DataW.weightsEach P ts ds).all (· ≤ reachBytes) = true) (j : Nat) (htj : ts[j]? = some t) (hdj : ds[j]? = some d)
    (hval : Value.okWide P W r b0 t v) (h0 : DataW.Trod enc P W 0 (fun _ => true) true t v d p) :
    ∃ A c xs, v = .slice A xs.length c ∧ Sl iv W (.slice A xs.length c) xs ∧ xs.length ≤ 17592186044000 := by
  obtain ⟨a0, len, cap, rfl⟩ := okWide_slice ht hval
  obtain ⟨fuel, hf⟩ := h0
  rcases open_ints ht he hc hf with ⟨hcs, _⟩ | ⟨a, len', cap', zs, hcs, _, hl, hm, hz, hd, hcell, hwz⟩
  · simp [Value.cells] at hcs
    obtain ⟨rfl, rfl, rfl⟩ := hcs
    exact ⟨none, 0, [], rfl, .inl ⟨rfl, rfl⟩, by simp⟩
  · simp [Value.cells] at hcs
    obtain ⟨rfl, rfl, rfl⟩ := hcs
    simp only [if_true] at hz
    simp only [Prod.mk.injEq] at hd
    obtain ⟨rfl, _⟩ := hd
    have hreach := sized_slice hsz htj hdj ht
    rw [hby] at hreach
    simp only [lits, List.length_map, List.length_take, List.length_drop, reachBytes] at hreach
    have hn : (zs.take len).length = len := by simp; omega
    refine ⟨some a, cap, zs.take len, by rw [hn], ?_, by omega⟩
    rw [hn]
    refine .inr ⟨a, cap, by rw [hn], by omega, fun j b hj => ?_⟩
    have hjl : j < len := by have := (List.getElem?_eq_some_iff.1 hj).1; omega
    rw [hcell j (by omega)]
    rw [List.getElem?_take, if_pos hjl, List.getElem?_eq_getElem (by omega)] at hj
    simp only [Option.some.injEq] at hj
    rw [List.getD_eq_getElem?_getD, List.getElem?_eq_getElem (by omega), Option.getD_some, iv, ← hj]
end
end Go.Proofs.Ytnhhhnhakpambaa
