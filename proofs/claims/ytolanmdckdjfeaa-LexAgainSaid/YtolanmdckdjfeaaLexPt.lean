/- LexParts: the walk. -/
import Derived.Test.YtolanmdckdjfeaaLexPr
import Derived.Test.YtolanmdckdjfeaaLexSame
import Derived.Test.YtolanmdckdjfeaaLexAw
import Derived.Test.YtolanmdckdjfeaaLaw
namespace Go.Proofs.Ytolanmdckdjfeaa
open Go.RowKit

theorem tokens_at' (s : ByteArray) (l : List UInt8) (hs : s = ofL l) (ts : List Tok) (a x : Nat) (h : full l = (ts, a, x)) (w : World) : Calls Try.prog 11 #[.string s] w fun e w' => ∃ v, e = .returned (.tuple #[v, .int .i64 (a : Int), .int .i64 (x : Int)]) ∧ Toks w' v ts ∧ Below w.heap.size w w' := by
  subst hs
  exact tokens_lit l ts a x h w
/-- append(s, x...) of a row of tokens of the call's own onto another one, behind a guard that says yes. -/
theorem appT {P : Program} {w : World} {ops : Array Oper} {rest : List Oper} {o : Oper} {a : Act} {Q : Exit → Act → World → Prop} (hw : Region.wanted o (yielded ops a.tmps) = true) (s x : Operand) (t : TypeId)
    (ho : o.op = .call { callee := .builtin .append, args := #[s, x], argTypes := #[t, t] })
    (e : TypeId) (z : Value) (by_ : Nat) (hinfo : (P.info? e).map (fun i => (i.zero, i.size, i.bytes)) = some (some z, 4, by_)) (ht : P.underlying t = some (.slice e)) (hzs : z.cells.size = 4)
    (B : Nat) (v : Value) (n : Nat) (xs : List Value) (hs : a.eval s = v) (hown : w.ownsRow B e 4 v n xs) (B2 e2 : Nat) (u : Value) (m : Nat) (ys : List Value) (hx : a.eval x = u) (hown2 : w.ownsRow B2 e2 4 u m ys) (h1 : ∀ u ∈ ys, u.oneCell' = true)
    (hr : (n + m) * by_ ≤ 140737488355328) (hm : n + m ≤ 140737488355328) (hB : B ≤ w.heap.size)
    (h : ∀ v' w', w'.ownsRow B e 4 v' (n + m) (xs ++ ys) → Frm e B w w' → wpList P ops Q rest (a.put o.dst v') w') : wpList P ops Q (o :: rest) a w := by
  refine wpList_wanted hw ?_
  obtain ⟨i0, hi, hz0, hz1, hz2⟩ := info_parts hinfo
  have hcl := @World.ownsRow.cells _ _ _ _ _ _ _ hown2
  have hlen := hown2.1
  rcases hown2.2 with ⟨rfl, h0⟩ | ⟨g, cap, cur, rfl, _, _, hn, _⟩
  · subst h0
    have hy : ys = [] := List.eq_nil_of_length_eq_zero (by omega)
    subst hy
    refine wpList_append_own_none rfl s x t ho B e i0 4 ht hi v n xs hs hown hx ?_
    exact h v w (by simpa using hown) (Frm.refl _ _ _)
  · refine wpList_append_own _ rfl s x t ho B e i0 z 4 by_ ht hi hz0 hz1 hz2 hzs (by decide) v n xs hs hown ⟨g, 0, none⟩ m cap ys hx hlen (hcl rfl) h1 (by unfold maxLen; omega) hr hB ?_
    intro v' w' hown' hg _
    exact h v' w' hown' (Frm.grownK hown hg)
theorem tcells_one (ts : List Tok) : ∀ u ∈ ts.flatMap tcells, u.oneCell' = true := by
  intro u hu
  obtain ⟨t, _, h⟩ := List.mem_flatMap.1 hu
  simp only [tcells, List.mem_cons, List.not_mem_nil, or_false] at h
  rcases h with rfl | rfl | rfl | rfl <;> rfl
/-- What the tokens of two sources with a line feed in between are. -/
theorem parts_cases (a b : List UInt8) (ha : a.length ≤ 1000) (hb : b.length ≤ 1000) :
    ((full a).2.2 ≠ 0 ∧ full (a ++ 10 :: b) = full a) ∨
    ((full a).2.2 = 0 ∧ (full b).2.2 ≠ 0 ∧ full (a ++ 10 :: b) = ([], (full b).2.1 + (a.length + 1), (full b).2.2)) ∨
    ((full a).2.2 = 0 ∧ (full b).2.2 = 0 ∧ (full (a ++ 10 :: b)).2 = (0, 0) ∧ SameT false (full (a ++ 10 :: b)).1 ((full a).1 ++ (full b).1)) := by
  rw [full_small (l := a) (by omega), full_small (l := b) (by omega), full_small (l := a ++ 10 :: b) (by simp; omega), lxs_parts]
  have hsh : lxs (0 + a.length + 1) b = sh (a.length + 1) (lxs 0 b) := by
    rw [← lxs_shift, show 0 + a.length + 1 = 0 + (a.length + 1) by omega]
  rw [hsh]
  by_cases h1 : (lxs 0 a).2.2 = 0
  · rw [if_pos h1]
    have hb1 := lxs_bad 0 b
    by_cases h2 : (lxs 0 b).2.2 = 0
    · refine .inr (.inr ⟨h1, h2, ?_, ?_⟩)
      · have := hb1.2 h2
        simp [prep, sh, h2, this]
      · simp only [prep, sh, h2, if_true]
        refine ⟨by simp, fun j s t hs ht => ?_⟩
        by_cases hj : j < (lxs 0 a).1.length
        · rw [List.getElem?_append_left hj] at hs ht
          rw [hs] at ht; cases ht
          exact ⟨rfl, rfl, rfl, fun h => by cases h⟩
        · rw [List.getElem?_append_right (by omega)] at hs ht
          rw [List.getElem?_map, ht] at hs
          simp at hs; subst hs
          exact ⟨rfl, rfl, rfl, fun h => by cases h⟩
    · refine .inr (.inl ⟨h1, h2, ?_⟩)
      have := hb1.1 h2
      simp [prep, sh, h2, this]
  · rw [if_neg h1]
    exact .inl ⟨h1, rfl⟩
end Go.Proofs.Ytolanmdckdjfeaa
