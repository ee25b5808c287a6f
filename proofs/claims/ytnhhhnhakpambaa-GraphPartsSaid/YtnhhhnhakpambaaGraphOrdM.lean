/- What an order is. Of no program. -/
import Derived.Test.YtnhhhnhakpambaaGraphRev
namespace Go.Proofs.Ytnhhhnhakpambaa

/-- Each of the list is the first that can stand there. -/
def Stepwise (g : List (List Nat)) (l : List Nat) : Prop := ∀ (i : Nat) x, l[i]? = some x → nxtO g (l.take i) = some x
theorem Stepwise.snoc {g : List (List Nat)} {l : List Nat} {x : Nat} (h : Stepwise g l) (hx : nxtO g l = some x) : Stepwise g (l ++ [x]) := by
  intro i y hy
  rcases Nat.lt_or_ge i l.length with h1 | h1
  · rw [List.getElem?_append_left h1] at hy
    rw [List.take_append_of_le_length (by omega)]
    exact h i y hy
  · rw [List.getElem?_append_right h1] at hy
    have h2 := (List.getElem?_eq_some_iff.1 hy).1
    have h3 : i - l.length = 0 := by simp at h2; omega
    rw [h3] at hy
    simp at hy
    subst hy
    rw [show i = l.length by omega, List.take_left]
    exact hx
theorem ordM_steps {g : List (List Nat)} : ∀ (k : Nat) (out l : List Nat), Stepwise g out → ordM g k out = some l → Stepwise g l ∧ l.length = out.length + k
  | 0, out, l, h, e => by
    unfold ordM at e
    cases e
    exact ⟨h, rfl⟩
  | k + 1, out, l, h, e => by
    unfold ordM at e
    cases hn : nxtO g out with
    | none => rw [hn] at e; cases e
    | some x =>
      rw [hn] at e
      obtain ⟨h1, h2⟩ := ordM_steps k _ l (h.snoc hn) e
      exact ⟨h1, by rw [h2]; simp; omega⟩
structure IsOrd (g : List (List Nat)) (l : List Nat) : Prop where
  len : l.length = g.length
  nodup : l.Nodup
  node : ∀ x ∈ l, x < g.length
  all : ∀ x, x < g.length → x ∈ l
  edge : ∀ (i j : Nat) x y, l[i]? = some x → l[j]? = some y → y ∈ row g x → i < j
  adj : ∀ (i : Nat) x y, l[i]? = some x → l[i + 1]? = some y → y < x → y ∈ row g x
theorem nxtO_some {g : List (List Nat)} {out : List Nat} {x : Nat} (h : nxtO g out = some x) : x < g.length ∧ cand g out x = true ∧ ∀ j, j < x → cand g out j = false := by
  unfold nxtO at h
  rw [List.find?_range_eq_some] at h
  obtain ⟨h1, h2, h3⟩ := h
  refine ⟨by simpa using h2, h1, fun j hj => ?_⟩
  have := h3 j hj
  simpa using this
theorem nodup_all {n : Nat} {l : List Nat} (h : l.Nodup) (hl : ∀ x ∈ l, x < n) (hn : l.length = n) (x : Nat) (hx : x < n) : x ∈ l := by
  refine Classical.not_not.1 fun hno => ?_
  have := nodup_lt (n := n) (l := x :: l) (List.nodup_cons.2 ⟨hno, h⟩) (fun y hy => by
    rcases List.mem_cons.1 hy with rfl | hy
    · exact hx
    · exact hl y hy)
  rw [List.length_cons] at this
  omega
theorem take_mem {l : List Nat} {i x : Nat} (h : x ∈ l.take i) : ∃ j, j < i ∧ l[j]? = some x := by
  obtain ⟨j, hj, e⟩ := List.getElem_of_mem h
  rw [List.length_take] at hj
  rw [List.getElem_take] at e
  exact ⟨j, by omega, by rw [← e]; exact List.getElem?_eq_getElem _⟩
theorem mem_take_of {l : List Nat} {i j x : Nat} (hj : j < i) (h : l[j]? = some x) : x ∈ l.take i := by
  refine List.mem_of_getElem? (i := j) ?_
  rw [List.getElem?_take, if_pos hj]; exact h
theorem Stepwise.ord {g : List (List Nat)} {l : List Nat} (h : Stepwise g l) (hn : l.length = g.length) : IsOrd g l := by
  have hnd : l.Nodup := by
    rw [List.nodup_iff_pairwise_ne, List.pairwise_iff_getElem]
    intro i j hi hj hij e
    have h1 := nxtO_some (h j _ (List.getElem?_eq_getElem hj))
    exact ((cand_iff _ _ _).1 h1.2.1).1 (mem_take_of hij (by rw [← e]; exact List.getElem?_eq_getElem hi))
  have hnode : ∀ x ∈ l, x < g.length := fun x hx => by
    obtain ⟨i, hi, e⟩ := List.getElem_of_mem hx
    exact (nxtO_some (h i x (by rw [← e]; exact List.getElem?_eq_getElem hi))).1
  refine ⟨hn, hnd, hnode, nodup_all hnd hnode hn, fun i j x y hi hj hy => ?_, fun i x y hi hj hlt => ?_⟩
  · have h1 := nxtO_some (h j y hj)
    obtain ⟨k, hk, e⟩ := take_mem (((cand_iff _ _ _).1 h1.2.1).2 x hy)
    have hki : k = i := by
      obtain ⟨a1, a2⟩ := List.getElem?_eq_some_iff.1 e
      obtain ⟨b1, b2⟩ := List.getElem?_eq_some_iff.1 hi
      exact (List.getElem_inj hnd).1 (a2.trans b2.symm)
    omega
  · have h1 := nxtO_some (h i x hi)
    have h2 := nxtO_some (h (i + 1) y hj)
    have h3 := h1.2.2 y hlt
    obtain ⟨c1, c2⟩ := (cand_iff _ _ _).1 h2.2.1
    have hsplit : ∀ m, m ∈ l.take (i + 1) → m ∈ l.take i ∨ m = x := fun m hm => by
      obtain ⟨k, hk, e⟩ := take_mem hm
      rcases Nat.lt_succ_iff_lt_or_eq.1 hk with h4 | rfl
      · exact .inl (mem_take_of h4 e)
      · rw [hi] at e; cases e; exact .inr rfl
    refine Classical.not_not.1 fun hno => ?_
    have : cand g (l.take i) y = true := (cand_iff _ _ _).2 ⟨fun hm => by
      obtain ⟨k, hk, e⟩ := take_mem hm
      exact c1 (mem_take_of (by omega) e), fun m hm => (hsplit m (c2 m hm)).resolve_right fun e => hno (by rw [← e]; exact hm)⟩
    rw [h3] at this
    cases this
theorem ordM_ord {g : List (List Nat)} {l : List Nat} (h : ordM g g.length [] = some l) : IsOrd g l := by
  obtain ⟨h1, h2⟩ := ordM_steps g.length [] l (by intro i x hx; cases hx) h
  exact h1.ord (by simpa using h2)
/-- The places of the first k of l. -/
structure AtInv (n : Nat) (l : List Nat) (k : Nat) (A : List Int) : Prop where
  len : A.length = n
  on : ∀ (j : Nat) x, j < k → l[j]? = some x → dat A x = j
  off : ∀ x, x < n → x ∉ l.take k → dat A x = -1
theorem AtInv.start {n : Nat} {l : List Nat} : AtInv n l 0 (List.replicate n (-1)) := ⟨by simp, by intro j x hj; omega, fun x _ _ => dat_repl _ x⟩
theorem AtInv.step {n : Nat} {l : List Nat} {k : Nat} {A : List Int} (h : AtInv n l k A) {x : Nat} (hx : l[k]? = some x) (hn : x < n) (hnd : l.Nodup) : dat A x = -1 ∧ AtInv n l (k + 1) (A.set x k) := by
  have hxl : x < A.length := by rw [h.len]; exact hn
  have huniq : ∀ j, l[j]? = some x → j = k := fun j hj => by
    obtain ⟨a1, a2⟩ := List.getElem?_eq_some_iff.1 hj
    obtain ⟨b1, b2⟩ := List.getElem?_eq_some_iff.1 hx
    exact (List.getElem_inj hnd).1 (a2.trans b2.symm)
  refine ⟨h.off x hn fun hm => ?_, by simp [h.len], fun j y hj hy => ?_, fun y hy hno => ?_⟩
  · obtain ⟨j, hj, e⟩ := take_mem hm
    have := huniq j e
    omega
  · rw [dat_set hxl]
    split
    · rename_i e; subst e
      rw [huniq j hy]
    · rename_i e
      rcases Nat.lt_succ_iff_lt_or_eq.1 hj with h1 | rfl
      · exact h.on j y h1 hy
      · rw [hx] at hy; cases hy; exact absurd rfl e
  · rw [dat_set hxl, if_neg (fun e => hno (by rw [e]; exact mem_take_of (Nat.lt_succ_self k) hx))]
    refine h.off y hy fun hm => hno ?_
    obtain ⟨j, hj, e⟩ := take_mem hm
    exact mem_take_of (by omega) e
end Go.Proofs.Ytnhhhnhakpambaa
