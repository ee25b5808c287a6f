/- The graph of the components, plain facts. -/
import Derived.Test.YtnhhhnhakpambaaCompSpec
import Derived.Test.YtnhhhnhakpambaaEdgesW
namespace Go.Proofs.Ytnhhhnhakpambaa
open Go.RowKit

def rowE (P : Nat → Nat) (n : Nat) (l : List Nat) : List (Nat × Nat) := (l.filter fun y => decide (P n ≠ P y)).map fun y => (P n, P y)
def edE (g : List (List Nat)) (P : Nat → Nat) (i : Nat) : List (Nat × Nat) := (List.range i).flatMap fun n => rowE P n (row g n)
theorem edE_next (g : List (List Nat)) (P : Nat → Nat) (i : Nat) : edE g P (i + 1) = edE g P i ++ rowE P i (row g i) := by
  unfold edE
  rw [List.range_succ, List.flatMap_append]; simp
theorem rowE_next {P : Nat → Nat} {n k : Nat} {l : List Nat} (hk : k < l.length) : rowE P n (l.take (k + 1)) = if P n = P l[k] then rowE P n (l.take k) else rowE P n (l.take k) ++ [(P n, P l[k])] := by
  unfold rowE
  rw [List.take_succ_eq_append_getElem hk, List.filter_append, List.map_append]
  by_cases h : P n = P l[k] <;> simp [h]
theorem rowE_len (P : Nat → Nat) (n : Nat) (l : List Nat) : (rowE P n l).length ≤ l.length := by
  unfold rowE
  rw [List.length_map]
  exact List.length_filter_le _ _
theorem edE_len {g : List (List Nat)} {P : Nat → Nat} {b : Nat} (hb : ∀ i, (row g i).length ≤ b) : ∀ i, (edE g P i).length ≤ i * b
  | 0 => by simp [edE]
  | i + 1 => by
    rw [edE_next, List.length_append]
    have := edE_len (P := P) hb i
    have := rowE_len P i (row g i)
    have := hb i
    rw [Nat.succ_mul]; omega
theorem edE_mem {g : List (List Nat)} {P : Nat → Nat} {i : Nat} {e : Nat × Nat} : e ∈ edE g P i ↔ ∃ n y, n < i ∧ y ∈ row g n ∧ P n ≠ P y ∧ e = (P n, P y) := by
  unfold edE rowE
  simp only [List.mem_flatMap, List.mem_range, List.mem_map, List.mem_filter, decide_eq_true_eq]
  constructor
  · rintro ⟨n, hn, y, ⟨hy, hp⟩, rfl⟩
    exact ⟨n, y, hn, hy, hp, rfl⟩
  · rintro ⟨n, y, hn, hy, hp, rfl⟩
    exact ⟨n, hn, y, ⟨hy, hp⟩, rfl⟩
/-- The numbers of the components, as they are laid down: i components and k nodes of the next one. -/
structure PInv (M : List Nat) (N i k : Nat) (A : List Int) : Prop where
  len : A.length = N
  at_ : ∀ x, x < N → (partOf M N x < i ∨ (partOf M N x = i ∧ x ∈ (row (compS M N) i).take k)) → dat A x = (partOf M N x : Int)
theorem PInv.start {M : List Nat} {N : Nat} {A : List Int} (h : A.length = N) : PInv M N 0 0 A := ⟨h, fun x _ h => by simp at h⟩
theorem PInv.step {M : List Nat} {N i k : Nat} {A : List Int} (h : PInv M N i k A) (hk : k < (row (compS M N) i).length) : PInv M N i (k + 1) (A.set (row (compS M N) i)[k] (i : Int)) := by
  obtain ⟨hx, hp⟩ := mem_comp M |>.1 (List.getElem_mem hk)
  refine ⟨by simp [h.len], fun x hxn hh => ?_⟩
  rw [dat_set (by rw [h.len]; exact hx)]
  by_cases e : x = (row (compS M N) i)[k]
  · rw [if_pos e, e, hp]
  · rw [if_neg e]
    refine h.at_ x hxn (hh.imp id fun h1 => ⟨h1.1, ?_⟩)
    rcases (take_succ_mem hk x).1 h1.2 with h2 | h2
    · exact h2
    · exact absurd h2 e
theorem PInv.next {M : List Nat} {N i : Nat} {A : List Int} (h : PInv M N i (row (compS M N) i).length A) : PInv M N (i + 1) 0 A := by
  refine ⟨h.len, fun x hx hh => h.at_ x hx ?_⟩
  rcases hh with h1 | h1
  · by_cases e : partOf M N x = i
    · refine .inr ⟨e, ?_⟩
      rw [List.take_length]
      exact (mem_comp M).2 ⟨hx, e⟩
    · exact .inl (by omega)
  · simp at h1
theorem PInv.fin {M : List Nat} {N : Nat} {A : List Int} (h : PInv M N (compS M N).length 0 A) {x : Nat} (hx : x < N) : dat A x = (partOf M N x : Int) := h.at_ x hx (.inl (partOf_lt M hx))
/-- Pairs in a row of the call's own. -/
def flatP (es : List (Nat × Nat)) : List Value := es.flatMap fun p => [nv p.1, nv p.2]
theorem flatP_len : ∀ es : List (Nat × Nat), (flatP es).length = es.length * 2
  | [] => rfl
  | e :: l => by
    have ih := flatP_len l
    have e1 : flatP (e :: l) = nv e.1 :: nv e.2 :: flatP l := rfl
    rw [e1, List.length_cons, List.length_cons, List.length_cons, ih]; omega
theorem flatP_snoc (es : List (Nat × Nat)) (a b : Nat) : flatP (es ++ [(a, b)]) = flatP es ++ [nv a, nv b] := by
  unfold flatP; simp
theorem flatP_get : ∀ (es : List (Nat × Nat)) (j : Nat) (p : Nat × Nat), es[j]? = some p → (flatP es)[j * 2]? = some (nv p.1) ∧ (flatP es)[j * 2 + 1]? = some (nv p.2)
  | [], j, p, h => by cases h
  | e :: l, 0, p, h => by cases h; exact ⟨rfl, rfl⟩
  | e :: l, j + 1, p, h => by
    have := flatP_get l j p (by simpa using h)
    have e1 : flatP (e :: l) = nv e.1 :: nv e.2 :: flatP l := rfl
    rw [e1, show (j + 1) * 2 = j * 2 + 1 + 1 by omega, List.getElem?_cons_succ, List.getElem?_cons_succ, show j * 2 + 1 + 1 + 1 = j * 2 + 1 + 1 + 1 from rfl, List.getElem?_cons_succ, List.getElem?_cons_succ]
    exact this
theorem prs_own {w : World} {B : Nat} {t : TypeId} {v : Value} {es : List (Nat × Nat)} (h : w.ownsRow B t 2 v es.length (flatP es)) : Prs w v (castP es) := by
  rcases h.2 with ⟨rfl, h0⟩ | ⟨g, cap, cur, rfl, _, hg, hcap, _, _, htk⟩
  · refine .inl ⟨?_, ?_⟩
    · rw [h0] at *
    · rw [List.length_eq_zero_iff.1 h0]; rfl
  · refine .inr ⟨⟨g, 0, none⟩, cap, by rw [castP_len], by rw [castP_len]; exact hcap, fun j p hp => ?_⟩
    unfold castP at hp
    rw [List.getElem?_map] at hp
    cases he : es[j]? with
    | none => rw [he] at hp; cases hp
    | some q =>
      rw [he] at hp; cases hp
      obtain ⟨h1, h2⟩ := flatP_get es j q he
      have hj : j < es.length := (List.getElem?_eq_some_iff.1 he).1
      rw [← htk, List.getElem?_take, if_pos (by omega)] at h1 h2
      have ha : ((⟨g, 0, none⟩ : Addr).add (j * 2)) = ⟨g, j * 2, none⟩ := by
        cases j <;> simp [Addr.add]
      rw [ha]
      refine ⟨?_, ?_⟩
      · rw [cell_of_heap hg]; simpa [nv] using h1
      · show w.cell? ⟨g, j * 2 + 1, none⟩ = _
        rw [cell_of_heap hg]; simpa [nv] using h2
end Go.Proofs.Ytnhhhnhakpambaa
