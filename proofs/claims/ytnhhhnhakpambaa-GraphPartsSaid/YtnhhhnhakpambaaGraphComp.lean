/- Every node has a leader; the components out of the leaders. Of no program. -/
import Derived.Test.YtnhhhnhakpambaaGraphLead
namespace Go.Proofs.Ytnhhhnhakpambaa

theorem set_true {l : List Bool} {x y : Nat} (h : l[y]? = some true) : (l.set x true)[y]? = some true := by
  rw [List.getElem?_set]
  split
  · rename_i e
    subst e
    rw [if_pos (List.getElem?_eq_some_iff.1 h).1]
  · exact h
theorem lstep_seen (g : List (List Nat)) (s : LSt) {x : Nat} (h : s.seen[x]? = some true) : (lstep g s).seen[x]? = some true := by
  unfold lstep
  split
  · exact h
  · split
    · split
      · exact h
      · exact set_true h
    · exact h
theorem lrun_seen (g : List (List Nat)) {x : Nat} : ∀ (k : Nat) (s : LSt), s.seen[x]? = some true → (lrun g k s).seen[x]? = some true
  | 0, _, h => h
  | k + 1, s, h => lrun_seen g k _ (lstep_seen g s h)
theorem LOut.all {g : List (List Nat)} {k : Nat} {s : LSt} (h : LOut g k s) : ∀ x, x < k → s.seen[x]? = some true := by
  induction h with
  | start => intro x hx; omega
  | seen _ hs ih =>
    intro x hx
    rcases Nat.lt_succ_iff_lt_or_eq.1 hx with h1 | rfl
    · exact ih x h1
    · exact hs
  | @new k s t _ hs hr ht ih =>
    intro x hx
    obtain ⟨m, rfl⟩ := hr
    refine lrun_seen g m _ ?_
    rcases Nat.lt_succ_iff_lt_or_eq.1 hx with h1 | rfl
    · exact set_true (ih x h1)
    · show (s.seen.set x true)[x]? = some true
      rw [List.getElem?_set, if_pos rfl, if_pos (List.getElem?_eq_some_iff.1 hs).1]
theorem left_all {g : List (List Nat)} {s : LSt} (h : LOut g g.length s) (hi : LInv g s) (hst : s.stack = []) {x : Nat} (hx : x < g.length) : x ∈ s.left := by
  have := (hi.mark x hx).1 (h.all x hx)
  rwa [hst, List.append_nil] at this
-- leaders stay
theorem dat_keep {D : List Int} {x y : Nat} {v : Int} (h : dat D y ≠ -1) (hx : dat D x = -1) : dat (D.set x v) y = dat D y := by
  by_cases hl : x < D.length
  · rw [dat_set hl, if_neg]
    rintro rfl
    exact h hx
  · rw [List.set_eq_of_length_le (by omega)]
theorem lvisit_keep (n : Nat) (s : LdQ) (x : Nat) {y : Nat} (h : dat s.1 y ≠ -1) : dat (lvisit n s x).1 y = dat s.1 y := by
  unfold lvisit
  split
  · rename_i hx; exact dat_keep h hx
  · rfl
theorem lfold_keep (n : Nat) {y : Nat} : ∀ (l : List Nat) (s : LdQ), dat s.1 y ≠ -1 → dat (l.foldl (lvisit n) s).1 y = dat s.1 y
  | [], _, _ => rfl
  | x :: l, s, h => by
    have e := lvisit_keep n s x h
    rw [List.foldl_cons, lfold_keep n l _ (by rw [e]; exact h), e]
theorem lbfs_keep (back : List (List Nat)) (n : Nat) {y : Nat} : ∀ (f k : Nat) (s : LdQ), dat s.1 y ≠ -1 → dat (lbfs back n f k s).1 y = dat s.1 y
  | 0, _, _, _ => rfl
  | f + 1, k, s, h => by
    unfold lbfs
    split
    · rfl
    · rename_i u _
      have e : dat (lproc back n s u).1 y = dat s.1 y := lfold_keep n _ s h
      rw [lbfs_keep back n f (k + 1) _ (by rw [e]; exact h), e]
theorem claim_keep (back : List (List Nat)) {D : List Int} (n : Nat) {y : Nat} (h : dat D y ≠ -1) : dat (claim back D n) y = dat D y := by
  unfold claim
  split
  · rename_i hn
    have e : dat (D.set n n) y = dat D y := dat_keep h hn
    rw [lbfs_keep back n _ _ _ (by show dat (D.set n n) y ≠ -1; rw [e]; exact h), e]
  · rfl
theorem claim_self (back : List (List Nat)) {D : List Int} {n : Nat} (h : n < D.length) : dat (claim back D n) n ≠ -1 := by
  unfold claim
  split
  · have e : dat (D.set n n) n = n := by rw [dat_set h, if_pos rfl]
    rw [lbfs_keep back n _ _ _ (by show dat (D.set n n) n ≠ -1; rw [e]; omega)]
    show dat (D.set n n) n ≠ -1
    rw [e]; omega
  · rename_i hn; exact hn
theorem claims_ok {back : List (List Nat)} {m : Nat} (hb : ∀ u x, x ∈ row back u → x < m) : ∀ (L : List Nat) (_ : ∀ x ∈ L, x < m) {D : List Int}, LdOk m D → LdOk m (L.foldl (claim back) D) ∧ ∀ y, (dat D y ≠ -1 ∨ y ∈ L) → dat (L.foldl (claim back) D) y ≠ -1
  | [], _, _, h => ⟨h, fun y hy => hy.resolve_right (by simp)⟩
  | n :: L, hL, D, h => by
    have hn := hL n (by simp)
    obtain ⟨h1, h2⟩ := claims_ok hb L (fun x hx => hL x (List.mem_cons_of_mem _ hx)) (h.claim hn hb)
    refine ⟨h1, fun y hy => h2 y ?_⟩
    rcases hy with hy | hy
    · exact .inl (by rw [claim_keep back n hy]; exact hy)
    · rcases List.mem_cons.1 hy with rfl | hy
      · exact .inl (claim_self back (by rw [h.len]; exact hn))
      · exact .inr hy
theorem leads_nat {g : List (List Nat)} (hg : VG g) {s : LSt} (h : LOut g g.length s) (hi : LInv g s) (hst : s.stack = []) : ∃ M : List Nat, leadM (revM g) s.left.reverse = M.map (fun n : Nat => (n : Int)) ∧ M.length = g.length ∧ ∀ x ∈ M, x < g.length := by
  have hb : ∀ u x, x ∈ row (revM g) u → x < g.length := fun u x hx => by have := (revM_vg hg).node u x hx; rwa [revM_len] at this
  obtain ⟨h1, h2⟩ := claims_ok hb s.left.reverse (fun x hx => hi.node x (List.mem_append_left _ (List.mem_reverse.1 hx))) (ldok_start g.length)
  have e : leadM (revM g) s.left.reverse = s.left.reverse.foldl (claim (revM g)) (List.replicate g.length (-1)) := by unfold leadM; rw [revM_len]
  rw [← e] at h1 h2
  generalize leadM (revM g) s.left.reverse = D at *
  refine ⟨D.map Int.toNat, ?_, by rw [List.length_map, h1.len], fun x hx => ?_⟩
  · rw [List.map_map]
    conv => lhs; rw [← List.map_id D]
    apply List.map_congr_left
    intro v hv
    obtain ⟨i, hi', rfl⟩ := List.getElem_of_mem hv
    have hv2 := h2 i (.inr (List.mem_reverse.2 (left_all h hi hst (by rw [← h1.len]; exact hi'))))
    have hv3 := (h1.lo i).1
    unfold dat at hv2 hv3
    rw [List.getElem?_eq_getElem hi'] at hv2 hv3
    simp only [Option.getD_some] at hv2 hv3
    simp only [id, Function.comp_apply]
    omega
  · obtain ⟨v, hv, rfl⟩ := List.mem_map.1 hx
    obtain ⟨i, hi', rfl⟩ := List.getElem_of_mem hv
    have hv2 := h2 i (.inr (List.mem_reverse.2 (left_all h hi hst (by rw [← h1.len]; exact hi'))))
    have hv3 := h1.lo i
    unfold dat at hv2 hv3
    rw [List.getElem?_eq_getElem hi'] at hv2 hv3
    simp only [Option.getD_some] at hv2 hv3
    omega
-- the components
def cstep (M : List Nat) (s : List (List Nat) × List Int) (n : Nat) : List (List Nat) × List Int :=
  if dat s.2 (M[n]?.getD 0) = -1 then (s.1 ++ [[n]], s.2.set (M[n]?.getD 0) s.1.length) else (s.1.set (dat s.2 (M[n]?.getD 0)).toNat (row s.1 (dat s.2 (M[n]?.getD 0)).toNat ++ [n]), s.2)
def compsM (N : Nat) (M : List Nat) : List (List Nat) := ((List.range N).foldl (cstep M) ([], List.replicate N (-1))).1
structure CInv (N k : Nat) (s : List (List Nat) × List Int) : Prop where
  len : s.2.length = N
  parts : s.1.length ≤ k
  rows : ∀ i, (row s.1 i).length ≤ k
  at_ : ∀ l, dat s.2 l = -1 ∨ (0 ≤ dat s.2 l ∧ dat s.2 l < s.1.length)
theorem row_set {α : Type} {g : List (List α)} {i j : Nat} {l : List α} (h : i < g.length) : row (g.set i l) j = if j = i then l else row g j := by
  unfold row
  rw [List.getElem?_set]
  by_cases e : i = j
  · subst e; simp [h]
  · rw [if_neg e, if_neg (fun h => e h.symm)]
theorem row_snoc {α : Type} {g : List (List α)} {j : Nat} {l : List α} : row (g ++ [l]) j = if j = g.length then l else row g j := by
  unfold row
  by_cases e : j = g.length
  · subst e; simp
  · rw [if_neg e]
    rcases Nat.lt_or_ge j g.length with h | h
    · rw [List.getElem?_append_left h]
    · rw [List.getElem?_eq_none h, List.getElem?_eq_none (by simp; omega)]
theorem CInv.step {N k : Nat} {s : List (List Nat) × List Int} (h : CInv N k s) {M : List Nat} (hM : M[k]?.getD 0 < N) : CInv N (k + 1) (cstep M s k) := by
  unfold cstep
  generalize M[k]?.getD 0 = l at *
  have hl : l < s.2.length := by rw [h.len]; exact hM
  split
  · refine ⟨by simp [h.len], by simp; exact h.parts, fun i => ?_, fun j => ?_⟩
    · show (row (s.1 ++ [[k]]) i).length ≤ k + 1
      rw [row_snoc]
      split
      · simp
      · have := h.rows i; omega
    · show dat (s.2.set l _) j = -1 ∨ _
      simp only [List.length_append, List.length_cons, List.length_nil]
      rw [dat_set hl]
      split
      · right; omega
      · rcases h.at_ j with h1 | h1
        · exact .inl h1
        · right; omega
  · rename_i hne
    obtain ⟨h1, h2⟩ := (h.at_ l).resolve_left hne
    refine ⟨h.len, by simp; have := h.parts; omega, fun i => ?_, fun j => by simpa using h.at_ j⟩
    show (row (s.1.set _ _) i).length ≤ k + 1
    rw [row_set (by omega)]
    split
    · rw [List.length_append]; have := h.rows (dat s.2 l).toNat; simp; omega
    · have := h.rows i; omega
theorem CInv.start (N : Nat) : CInv N 0 ([], List.replicate N (-1)) := ⟨by simp, by simp, by simp [row], fun l => .inl (dat_repl _ l)⟩
theorem comps_next (M : List Nat) (N k : Nat) (s : List (List Nat) × List Int) (h : (List.range k).foldl (cstep M) ([], List.replicate N (-1)) = s) : (List.range (k + 1)).foldl (cstep M) ([], List.replicate N (-1)) = cstep M s k := by
  rw [List.range_succ, List.foldl_append, h]; rfl
end Go.Proofs.Ytnhhhnhakpambaa
