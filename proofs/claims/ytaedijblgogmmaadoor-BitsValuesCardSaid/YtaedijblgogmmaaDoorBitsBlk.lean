/- Blocks of words that may be written: what BitsValues wants. -/
import Derived.Test.YtaedijblgogmmaaDoorBitsAlg
namespace Go.Proofs.YtaedijblgogmmaaDoor
open Go.RowKit

/-- A block of words that can be written, at least m of them. -/
def WBL (W : World) (g m : Nat) : Prop := (∃ cs : Array Value, W.heap[g]? = some (.cells cs 52 (0, 0)) ∧ ∀ j, j < m → ∃ z : Nat, U64 z ∧ cs[j]? = some (.int .u64 (z : Int))) ∧ g < W.heap.size
section
variable {W W' : World} {g m : Nat}
theorem WBL.below (h : WBL W g m) (hb : Below W.heap.size W W') : WBL W' g m := by
  obtain ⟨⟨cs, h1, h2⟩, h3⟩ := h
  exact ⟨⟨cs, (hb.block g h3).trans h1, h2⟩, Nat.lt_of_lt_of_le h3 hb.size⟩
theorem WBL.cell (h : WBL W g m) (j : Nat) (hj : j < m) : ∃ z : Nat, U64 z ∧ W.cell? ⟨g, j, none⟩ = some (.int .u64 (z : Int)) := by
  obtain ⟨⟨cs, h1, h2⟩, h3⟩ := h
  obtain ⟨z, hz, hc⟩ := h2 j hj
  exact ⟨z, hz, by rw [cell_of_row W g j _ _ _ h1]; exact hc⟩
theorem WBL.frozen (h : WBL W g m) (j : Nat) : W.frozen? ⟨g, j, none⟩ = false := by
  obtain ⟨⟨cs, h1, h2⟩, h3⟩ := h
  simp [World.frozen?, h1]
theorem WBL.set (h : WBL W g m) (g' j' : Nat) (z : Nat) (hz : U64 z) : WBL (W.setCell ⟨g', j', none⟩ (.int .u64 (z : Int))) g m := by
  obtain ⟨⟨cs, h1, h2⟩, h3⟩ := h
  refine ⟨?_, by simpa using h3⟩
  by_cases e : g = g'
  · subst e
    refine ⟨cs.setIfInBounds j' (.int .u64 (z : Int)), heap_set h1, fun j hj => ?_⟩
    by_cases ej : j' = j
    · subst ej
      obtain ⟨y, hy, hc⟩ := h2 j' hj
      have hlt := (Array.getElem?_eq_some_iff.1 hc).1
      exact ⟨z, hz, by rw [Array.getElem?_setIfInBounds]; simp [hlt]⟩
    · obtain ⟨y, hy, hc⟩ := h2 j hj
      exact ⟨y, hy, by rw [Array.getElem?_setIfInBounds]; simp [ej, hc]⟩
  · exact ⟨cs, (Below.heap_setCell W ⟨g', j', none⟩ _ g e).trans h1, h2⟩
end
theorem WBL.of_row {W : World} {B g n cap : Nat} {xs : List Nat} (h : W.ownsRow B 52 1 (.slice (some ⟨g, 0, none⟩) n cap) n (xs.map uv)) (hw : Wds xs) : WBL W g n := by
  rcases h.2 with ⟨h0, _⟩ | ⟨g', cap', cur, he, hb, hh, hc, _, hs, ht⟩
  · cases h0
  · simp only [Value.slice.injEq, Option.some.injEq, Addr.mk.injEq] at he
    obtain ⟨⟨rfl, _, _⟩, _, rfl⟩ := he
    refine ⟨⟨cur, hh, fun j hj => ?_⟩, lt_of_some hh⟩
    have hl : xs.length = n := by simpa using h.1
    refine ⟨xs[j]'(by omega), hw _ (List.getElem_mem _), ?_⟩
    have : (cur.toList.take (n * 1))[j]? = some (uv (xs[j]'(by omega))) := by rw [ht, List.getElem?_map, List.getElem?_eq_getElem (by omega)]; rfl
    rw [List.getElem?_take, if_pos (by omega), Array.getElem?_toList] at this
    exact this
theorem apart_of {W : World} {g m g' : Nat} (h : WBL W g m) (hg : W.heap.size ≤ g') : g' ≠ g := by have := h.2; omega
/-- A set that an operation has made: its block, whose words may be written. -/
theorem Own.blk {B : Nat} {w : World} {v : Value} {xs : List Nat} (h : Own B w v xs) (hw : Wds xs) (hl : xs.length ≤ 64) : ∃ g n m, v = .slice (some ⟨g, 0, none⟩) n m ∧ WBL w g n ∧ B ≤ g ∧ n ≤ 64 ∧ n ≤ m := by
  obtain ⟨g, m, ys, rfl, ho, e, hm⟩ := h
  have hb : B ≤ g := (ho.lt g rfl).1
  have hyl : ys.length = m := by simpa using ho.1
  refine ⟨g, xs.length, m, rfl, ?_, hb, hl, hm⟩
  rcases ho.2 with ⟨h0, _⟩ | ⟨g', cap', cur, he, _, hh, _, _, hs, ht⟩
  · cases h0
  · simp only [Value.slice.injEq, Option.some.injEq, Addr.mk.injEq] at he
    obtain ⟨⟨rfl, _, _⟩, _, rfl⟩ := he
    refine ⟨⟨cur, hh, fun j hj => ?_⟩, lt_of_some hh⟩
    have h1 : (ys.take xs.length)[j]? = some xs[j] := by
      rw [← e]
      exact List.getElem?_eq_getElem hj
    have h2 : ys[j]? = some xs[j] := by
      rw [List.getElem?_take, if_pos hj] at h1
      exact h1
    refine ⟨xs[j], hw _ (List.getElem_mem _), ?_⟩
    have : (cur.toList.take (m * 1))[j]? = some (uv xs[j]) := by rw [ht, List.getElem?_map, h2]; rfl
    rw [List.getElem?_take, if_pos (by omega), Array.getElem?_toList] at this
    exact this
def sv (p : Nat × Nat × Nat) : Value := .slice (some ⟨p.1, 0, none⟩) p.2.1 p.2.2
/-- What lies in other blocks stays where a word is written. -/
theorem Sl.set_other {α : Type} {f : α → Value} {W : World} {v : Value} {xs : List α} (h : Sl f W v xs) (g j : Nat) (z : Value) (hne : ∀ ad n c, v = .slice (some ad) n c → ad.block ≠ g) : Sl f (W.setCell ⟨g, j, none⟩ z) v xs := by
  rcases h with h | ⟨ad, c, rfl, hc, hcell⟩
  · exact .inl h
  · refine .inr ⟨ad, c, rfl, hc, fun i b hi => ?_⟩
    rw [World.cell?_of_block (w := W) (Below.heap_setCell W ⟨g, j, none⟩ z _ (by rw [addr_add_block]; exact hne ad _ _ rfl))]
    exact hcell i b hi
theorem addr0 (g k : Nat) : (⟨g, 0, none⟩ : Addr).add k = ⟨g, k, none⟩ := by unfold Addr.add; split <;> simp_all
theorem own_ne {g g' n m : Nat} (h : g' ≠ g) : ∀ ad k c, Value.slice (some ⟨g', 0, none⟩) n m = .slice (some ad) k c → ad.block ≠ g := by
  intro ad k c e
  simp only [Value.slice.injEq, Option.some.injEq] at e
  rw [← e.1]
  exact h
/-- Between two stores into the results. -/
structure Inv (w : World) (gl g0 cap0 : Nat) (LL : List (Nat × Nat × Nat)) (a : List Nat) (W : World) : Prop where
  b : Below w.heap.size w W
  l : Sl sv W (.slice (some ⟨gl, 0, none⟩) 6 6) LL
  w : ∀ p ∈ LL, WBL W p.1 p.2.1
  o : Sl uv W (.slice (some ⟨g0, 0, none⟩) a.length cap0) a
  g : WBL W g0 a.length
theorem Inv.store {w W : World} {gl g0 cap0 g j : Nat} {LL : List (Nat × Nat × Nat)} {a : List Nat} (h : Inv w gl g0 cap0 LL a W) (h0 : g ≠ g0) (hl : g ≠ gl) (hb : w.heap.size ≤ g) (z : Nat) (hz : U64 z) : Inv w gl g0 cap0 LL a (W.setCell ⟨g, j, none⟩ (.int .u64 (z : Int))) :=
  ⟨h.b.setCell (p := ⟨g, j, none⟩) hb _, h.l.set_other g j _ (own_ne (Ne.symm hl)), fun p hp => (h.w p hp).set g j z hz, h.o.set_other g j _ (own_ne (Ne.symm h0)), h.g.set g j z hz⟩
theorem inc_run (z : Nat) (hz : U64 z) : ∃ y : Nat, U64 y ∧ IntKind.u64.wrap ((z : Int) + 1) = (y : Int) := by
  unfold U64 at hz
  by_cases h : z = 18446744073709551615
  · exact ⟨0, by unfold U64; omega, by rw [IntKind.wrap_u64]; omega⟩
  · exact ⟨z + 1, by unfold U64; omega, by rw [IntKind.wrap_u64]; omega⟩
/-- As appS; the result is nil only where both were. -/
theorem appS2 {α : Type} {f : α → Value} {P : Program} {w : World} {ops : Array Oper} {rest : List Oper} {o : Oper} {a : Act} {Q : Exit → Act → World → Prop} (hgd : o.guard = none) (s x : Operand) (t : TypeId)
    (ho : o.op = .call { callee := .builtin .append, args := #[s, x], argTypes := #[t, t] })
    (e : TypeId) (z : Value) (by_ : Nat) (hinfo : (P.info? e).map (fun i => (i.zero, i.size, i.bytes)) = some (some z, 1, by_)) (hzs : z.cells.size = 1) (ht : P.underlying t = some (.slice e)) (hf : ∀ x, (f x).oneCell' = true)
    (B : Nat) (v : Value) (n : Nat) (xs : List Value) (hs : a.eval s = v) (hown : w.ownsRow B e 1 v n xs) (u : Value) (ys : List α) (hx : a.eval x = u) (hb : Sl f w u ys)
    (hr : (n + ys.length) * by_ ≤ 140737488355328) (hm : n + ys.length ≤ 140737488355328) (hB : B ≤ w.heap.size)
    (h : ∀ v' w', w'.ownsRow B e 1 v' (n + ys.length) (xs ++ ys.map f) → Frm e B w w' → (v' = .slice none 0 0 → v = .slice none 0 0) → wpList P ops Q rest (a.put o.dst v') w') : wpList P ops Q (o :: rest) a w := by
  obtain ⟨i0, hi, hz0, hz1, hz2⟩ := info_parts hinfo
  rcases hb with ⟨rfl, rfl⟩ | ⟨ad, c, rfl, hc, hcell⟩
  · refine wpList_append_own_none hgd s x t ho B e i0 1 ht hi v n xs hs hown hx ?_
    exact h v w (by simpa using hown) (Frm.refl _ _ _) id
  · refine wpList_append_own _ hgd s x t ho B e i0 z 1 by_ ht hi hz0 hz1 hz2 hzs (by decide) v n xs hs hown ad ys.length c (ys.map f) hx (by simp) ?_ (map_one hf ys) (by unfold maxLen; omega) hr hB ?_
    · intro j u hj
      rw [List.getElem?_map] at hj
      cases hjx : ys[j]? with
      | none => rw [hjx] at hj; cases hj
      | some b => rw [hjx] at hj; cases hj; exact hcell j b hjx
    · intro v' w' hown' hg hnil
      exact h v' w' hown' (Frm.grown hown hg) fun e => (hnil.1 e).1
end Go.Proofs.YtaedijblgogmmaaDoor
