/- The search in depth, as plain steps. Of no program. -/
import Derived.Test.YtnhhhnhakpambaaGraphRev
namespace Go.Proofs.Ytnhhhnhakpambaa

structure LSt where
  left : List Nat
  stack : List Nat
  seen : List Bool
  tried : List Nat
def tr (s : LSt) (n : Nat) : Nat := s.tried[n]?.getD 0
def lstep (g : List (List Nat)) (s : LSt) : LSt :=
  match s.stack.getLast? with
  | none => s
  | some n => match (row g n)[tr s n]? with
    | some x => if s.seen[x]?.getD true = true then { s with tried := s.tried.set n (tr s n + 1) }
      else { s with stack := s.stack ++ [x], seen := s.seen.set x true, tried := s.tried.set n (tr s n + 1) }
    | none => { s with left := s.left ++ [n], stack := s.stack.dropLast }
def lrun (g : List (List Nat)) : Nat → LSt → LSt
  | 0, s => s
  | k + 1, s => lrun g k (lstep g s)
theorem lrun_succ (g : List (List Nat)) : ∀ (k : Nat) (s : LSt), lrun g (k + 1) s = lstep g (lrun g k s)
  | 0, _ => rfl
  | k + 1, s => lrun_succ g k (lstep g s)
theorem lrun_stop (g : List (List Nat)) {s : LSt} (h : s.stack = []) : ∀ k, lrun g k s = s
  | 0 => rfl
  | k + 1 => by
    have : lstep g s = s := by unfold lstep; rw [h]; rfl
    rw [lrun, this, lrun_stop g h k]
theorem lrun_det (g : List (List Nat)) : ∀ (k m : Nat) (s : LSt), (lrun g k s).stack = [] → (lrun g m s).stack = [] → lrun g k s = lrun g m s
  | 0, m, _, h, _ => (lrun_stop g h m).symm
  | k + 1, 0, _, _, h => lrun_stop g h (k + 1)
  | k + 1, m + 1, s, h1, h2 => lrun_det g k m (lstep g s) h1 h2
def LRuns (g : List (List Nat)) (s t : LSt) : Prop := ∃ k, lrun g k s = t
theorem LRuns.refl (g : List (List Nat)) (s : LSt) : LRuns g s s := ⟨0, rfl⟩
theorem LRuns.step {g : List (List Nat)} {s t u : LSt} (h : LRuns g s t) (hu : lstep g t = u) : LRuns g s u := by
  obtain ⟨k, rfl⟩ := h
  exact ⟨k + 1, by rw [lrun_succ, hu]⟩
def lenter (s : LSt) (x : Nat) : LSt := { s with stack := [x], seen := s.seen.set x true }
def linit (n : Nat) : LSt := ⟨[], [], List.replicate n false, List.replicate n 0⟩
inductive LOut (g : List (List Nat)) : Nat → LSt → Prop
  | start : LOut g 0 (linit g.length)
  | seen {k : Nat} {s : LSt} : LOut g k s → s.seen[k]? = some true → LOut g (k + 1) s
  | new {k : Nat} {s t : LSt} : LOut g k s → s.seen[k]? = some false → LRuns g (lenter s k) t → t.stack = [] → LOut g (k + 1) t
def lout (g : List (List Nat)) (F : Nat) : Nat → LSt
  | 0 => linit g.length
  | k + 1 => if (lout g F k).seen[k]?.getD true = true then lout g F k else lrun g F (lenter (lout g F k) k)
theorem LOut.eq {g : List (List Nat)} {F : Nat} {k : Nat} {s : LSt} (h : LOut g k s) : (∀ j, j ≤ k → (lout g F j).stack = []) → s = lout g F k := by
  induction h with
  | start => intro _; rfl
  | seen h hs ih =>
    intro hall
    have e := ih fun j hj => hall j (by omega)
    subst e
    conv => rhs; unfold lout
    simp only [hs]; rfl
  | @new k s t h hs hr ht ih =>
    intro hall
    have e := ih fun j hj => hall j (by omega)
    subst e
    have h2 : lout g F (k + 1) = lrun g F (lenter (lout g F k) k) := by
      conv => lhs; unfold lout
      simp only [hs]; rfl
    obtain ⟨m, hm⟩ := hr
    rw [h2, ← hm]
    exact lrun_det g m F _ (by rw [hm]; exact ht) (by rw [← h2]; exact hall (k + 1) (Nat.le_refl _))
theorem lstep_skip {g : List (List Nat)} {s : LSt} {n x : Nat} (hn : s.stack.getLast? = some n) (hx : (row g n)[tr s n]? = some x) (hs : s.seen[x]? = some true) : lstep g s = { s with tried := s.tried.set n (tr s n + 1) } := by
  unfold lstep; simp [hn, hx, hs]
theorem lstep_push {g : List (List Nat)} {s : LSt} {n x : Nat} (hn : s.stack.getLast? = some n) (hx : (row g n)[tr s n]? = some x) (hs : s.seen[x]? = some false) : lstep g s = { s with stack := s.stack ++ [x], seen := s.seen.set x true, tried := s.tried.set n (tr s n + 1) } := by
  unfold lstep; simp [hn, hx, hs]
theorem lstep_pop {g : List (List Nat)} {s : LSt} {n : Nat} (hn : s.stack.getLast? = some n) (hx : (row g n).length ≤ tr s n) : lstep g s = { s with left := s.left ++ [n], stack := s.stack.dropLast } := by
  unfold lstep; simp [hn, List.getElem?_eq_none hx]

/-- What the search keeps. -/
structure LInv (g : List (List Nat)) (s : LSt) : Prop where
  slen : s.seen.length = g.length
  tlen : s.tried.length = g.length
  node : ∀ x ∈ s.left ++ s.stack, x < g.length
  nodup : (s.left ++ s.stack).Nodup
  mark : ∀ x, x < g.length → (s.seen[x]? = some true ↔ x ∈ s.left ++ s.stack)
  le : ∀ i, tr s i ≤ (row g i).length
theorem LInv.count {g : List (List Nat)} {s : LSt} (h : LInv g s) : s.left.length + s.stack.length ≤ g.length := by
  have := nodup_lt h.nodup h.node
  rwa [List.length_append] at this
theorem linv_init (g : List (List Nat)) : LInv g (linit g.length) := by
  refine ⟨by simp [linit], by simp [linit], by simp [linit], by simp [linit], fun x hx => ?_, fun i => ?_⟩
  · simp only [linit, List.getElem?_replicate, if_pos hx]; simp
  · simp only [tr, linit, List.getElem?_replicate]
    split <;> simp
theorem tr_set {s : LSt} {n i v : Nat} {l : List Nat} {b : List Nat} {c : List Bool} (h : n < s.tried.length) : tr ⟨l, b, c, s.tried.set n v⟩ i = if i = n then v else tr s i := by
  unfold tr
  rw [List.getElem?_set]
  by_cases e : n = i
  · subst e; simp [h]
  · rw [if_neg e, if_neg (fun h => e h.symm)]
theorem LInv.em {g : List (List Nat)} {s : LSt} (h : LInv g s) {x : Nat} (hx : x < g.length) : s.seen[x]? = some true ∨ s.seen[x]? = some false := by
  have hl : x < s.seen.length := by rw [h.slen]; exact hx
  rw [List.getElem?_eq_getElem hl]
  cases s.seen[x] <;> simp
theorem LInv.skip {g : List (List Nat)} {s : LSt} (h : LInv g s) {n : Nat} (hn : n < g.length) (ht : tr s n < (row g n).length) : LInv g { s with tried := s.tried.set n (tr s n + 1) } := by
  refine ⟨h.slen, by simp [h.tlen], h.node, h.nodup, h.mark, fun i => ?_⟩
  rw [tr_set (by rw [h.tlen]; exact hn)]
  split
  · rename_i e; subst e; omega
  · exact h.le i
theorem LInv.pop {g : List (List Nat)} {s : LSt} (h : LInv g s) {n : Nat} {st : List Nat} (hs : s.stack = st ++ [n]) : LInv g { s with left := s.left ++ [n], stack := st } := by
  have hmem : ∀ x, x ∈ (s.left ++ [n]) ++ st ↔ x ∈ s.left ++ s.stack := fun x => by
    rw [hs]; simp only [List.mem_append, List.mem_singleton]
    constructor
    · rintro ((h1 | h1) | h1)
      · exact .inl h1
      · exact .inr (.inr h1)
      · exact .inr (.inl h1)
    · rintro (h1 | h1 | h1)
      · exact .inl (.inl h1)
      · exact .inr h1
      · exact .inl (.inr h1)
  refine ⟨h.slen, h.tlen, fun x hx => h.node x ((hmem x).1 hx), ?_, fun x hx => (h.mark x hx).trans (hmem x).symm, h.le⟩
  have hnd := h.nodup
  rw [hs] at hnd
  rw [List.nodup_append] at hnd ⊢
  obtain ⟨h1, h2, h3⟩ := hnd
  rw [List.nodup_append] at h2
  obtain ⟨h4, _, h5⟩ := h2
  refine ⟨?_, h4, ?_⟩
  · rw [List.nodup_append]
    exact ⟨h1, by simp, fun a ha b hb => h3 a ha b (List.mem_append_right _ hb)⟩
  · intro a ha b hb
    rcases List.mem_append.1 ha with h6 | h6
    · exact h3 a h6 b (List.mem_append_left _ hb)
    · simp at h6; subst h6
      exact fun e => h5 b hb a (by simp) e.symm
theorem LInv.mark_new {g : List (List Nat)} {s : LSt} (h : LInv g s) {x : Nat} {st : List Nat} (hst : ∀ y, y ∈ st ↔ y ∈ s.stack ∨ y = x) (hx : x < g.length) (y : Nat) (hy : y < g.length) : ((s.seen.set x true)[y]? = some true ↔ y ∈ s.left ++ st) := by
  rw [List.getElem?_set]
  by_cases e : x = y
  · subst e
    rw [if_pos rfl, if_pos (by rw [h.slen]; exact hx)]
    simp [hst]
  · rw [if_neg e, h.mark y hy]
    simp only [List.mem_append, hst]
    constructor
    · rintro (h1 | h1)
      · exact .inl h1
      · exact .inr (.inl h1)
    · rintro (h1 | h1 | h1)
      · exact .inl h1
      · exact .inr h1
      · exact absurd h1.symm e
theorem LInv.unseen {g : List (List Nat)} {s : LSt} (h : LInv g s) {x : Nat} (hx : x < g.length) (hs : s.seen[x]? = some false) : x ∉ s.left ++ s.stack := fun hm => by
  rw [(h.mark x hx).2 hm] at hs; cases hs
theorem LInv.push {g : List (List Nat)} {s : LSt} (h : LInv g s) {n x : Nat} (hn : n < g.length) (ht : tr s n < (row g n).length) (hx : x < g.length) (hs : s.seen[x]? = some false) :
    LInv g { s with stack := s.stack ++ [x], seen := s.seen.set x true, tried := s.tried.set n (tr s n + 1) } := by
  have hun := h.unseen hx hs
  refine ⟨by simp [h.slen], by simp [h.tlen], fun y hy => ?_, ?_, fun y hy => h.mark_new (fun y => by simp) hx y hy, fun i => ?_⟩
  · rw [← List.append_assoc] at hy
    rcases List.mem_append.1 hy with h1 | h1
    · exact h.node y h1
    · simp at h1; subst h1; exact hx
  · show (s.left ++ (s.stack ++ [x])).Nodup
    rw [← List.append_assoc, List.nodup_append]
    exact ⟨h.nodup, by simp, fun a ha b hb => by simp at hb; subst hb; rintro rfl; exact hun ha⟩
  · rw [tr_set (by rw [h.tlen]; exact hn)]
    split
    · rename_i e; subst e; omega
    · exact h.le i
theorem LInv.enter {g : List (List Nat)} {s : LSt} (h : LInv g s) {x : Nat} (hst : s.stack = []) (hx : x < g.length) (hs : s.seen[x]? = some false) : LInv g (lenter s x) := by
  have hun := h.unseen hx hs
  rw [hst, List.append_nil] at hun
  refine ⟨by simp [lenter, h.slen], h.tlen, fun y hy => ?_, ?_, fun y hy => h.mark_new (fun y => by rw [hst]; simp [lenter]) hx y hy, h.le⟩
  · rcases List.mem_append.1 hy with h1 | h1
    · exact h.node y (List.mem_append_left _ h1)
    · simp [lenter] at h1; subst h1; exact hx
  · show (s.left ++ [x]).Nodup
    rw [List.nodup_append]
    have := h.nodup
    rw [hst, List.append_nil] at this
    exact ⟨this, by simp, fun a ha b hb => by simp at hb; subst hb; rintro rfl; exact hun ha⟩
-- the measure
theorem sum_set : ∀ (l : List Nat) (n v : Nat), n < l.length → (l.set n (v + 1)).sum + (l[n]?.getD 0) = l.sum + (v + 1)
  | [], n, v, h => by simp at h
  | a :: l, 0, v, _ => by simp; omega
  | a :: l, n + 1, v, h => by
    have := sum_set l n v (by simpa using h)
    simp only [List.set_cons_succ, List.sum_cons, List.getElem?_cons_succ]
    omega
theorem sum_le : ∀ (l m : List Nat), l.length = m.length → (∀ i : Nat, l[i]?.getD 0 ≤ m[i]?.getD 0) → l.sum ≤ m.sum
  | [], [], _, _ => Nat.le_refl _
  | [], _ :: _, h, _ => by simp at h
  | _ :: _, [], h, _ => by simp at h
  | a :: l, b :: m, h, hh => by
    have h0 := hh 0
    have := sum_le l m (by simpa using h) fun i => by simpa using hh (i + 1)
    simp at h0
    simp only [List.sum_cons]
    omega
def msum (g : List (List Nat)) : Nat := (g.map List.length).sum
def mu (g : List (List Nat)) (s : LSt) : Nat := 2 * (msum g - s.tried.sum) + s.stack.length
theorem LInv.tsum {g : List (List Nat)} {s : LSt} (h : LInv g s) : s.tried.sum ≤ msum g := by
  refine sum_le _ _ (by rw [h.tlen]; simp) fun i => ?_
  have := h.le i
  unfold tr row at this
  rw [List.getElem?_map]
  cases hg : g[i]? with
  | none => rw [hg] at this; simpa using this
  | some l => rw [hg] at this; simpa using this
theorem LInv.mu_lt {g : List (List Nat)} {s : LSt} (h : LInv g s) {n : Nat} (hn : n < g.length) {l st : List Nat} {b : List Bool} (h2 : LInv g ⟨l, st, b, s.tried.set n (tr s n + 1)⟩) (hst : st.length ≤ s.stack.length + 1) : mu g ⟨l, st, b, s.tried.set n (tr s n + 1)⟩ < mu g s := by
  have h3 := h2.tsum
  have h4 := sum_set s.tried n (tr s n) (by rw [h.tlen]; exact hn)
  simp only at h3
  unfold mu
  simp only
  unfold tr at *
  omega
end Go.Proofs.Ytnhhhnhakpambaa
