/- The leaders, as plain steps. Of no program. -/
import Derived.Test.YtnhhhnhakpambaaGraphLeave
namespace Go.Proofs.Ytnhhhnhakpambaa

/-- The numbers of leaders, and the queue. -/
abbrev LdQ := List Int × List Nat
def lvisit (n : Nat) (s : LdQ) (x : Nat) : LdQ := if dat s.1 x = -1 then (s.1.set x n, s.2 ++ [x]) else s
def lproc (back : List (List Nat)) (n : Nat) (s : LdQ) (u : Nat) : LdQ := (row back u).foldl (lvisit n) s
def lbfs (back : List (List Nat)) (n : Nat) : Nat → Nat → LdQ → LdQ
  | 0, _, s => s
  | f + 1, h, s => match s.2[h]? with
    | none => s
    | some u => lbfs back n f (h + 1) (lproc back n s u)
def claim (back : List (List Nat)) (D : List Int) (n : Nat) : List Int := if dat D n = -1 then (lbfs back n (back.length + 1) 0 (D.set n n, [n])).1 else D
def leadM (back : List (List Nat)) (L : List Nat) : List Int := L.foldl (claim back) (List.replicate back.length (-1))
theorem lv_len (n : Nat) : ∀ (l : List Nat) (s : LdQ), s.2.length ≤ (l.foldl (lvisit n) s).2.length
  | [], _ => Nat.le_refl _
  | x :: l, s => Nat.le_trans (by unfold lvisit; split <;> simp) (lv_len n l (lvisit n s x))
theorem lbfs_stop {back : List (List Nat)} {n f h : Nat} {s : LdQ} (hh : s.2.length ≤ h) : lbfs back n f h s = s := by
  cases f with
  | zero => rfl
  | succ f => unfold lbfs; rw [List.getElem?_eq_none hh]
theorem lbfs_next {back : List (List Nat)} {n h u : Nat} {s : LdQ} (hu : s.2[h]? = some u) (hb : h ≤ back.length) : lbfs back n (back.length + 1 - h) h s = lbfs back n (back.length + 1 - (h + 1)) (h + 1) (lproc back n s u) := by
  rw [show back.length + 1 - h = (back.length + 1 - (h + 1)) + 1 by omega]
  conv => lhs; unfold lbfs
  rw [hu]
theorem foldl_take {α β : Type} (f : β → α → β) (s : β) (l : List α) {k : Nat} (hk : k < l.length) : (l.take (k + 1)).foldl f s = f ((l.take k).foldl f s) l[k] := by
  rw [List.take_succ_eq_append_getElem hk, List.foldl_append]; rfl
/-- What the search keeps. -/
structure LQ (m n : Nat) (s : LdQ) : Prop where
  len : s.1.length = m
  nodup : s.2.Nodup
  node : ∀ x ∈ s.2, x < m ∧ dat s.1 x ≠ -1
  lo : ∀ x, -1 ≤ dat s.1 x ∧ dat s.1 x < m
theorem LQ.qlen {m n : Nat} {s : LdQ} (h : LQ m n s) : s.2.length ≤ m := nodup_lt h.nodup fun x hx => (h.node x hx).1
theorem LQ.visit {m n : Nat} {s : LdQ} (h : LQ m n s) (hn : n < m) {x : Nat} (hx : x < m) : LQ m n (lvisit n s x) := by
  unfold lvisit
  split
  · rename_i he
    have hxl : x < s.1.length := by rw [h.len]; exact hx
    refine ⟨by simp [h.len], ?_, fun y hy => ?_, fun y => ?_⟩
    · show (s.2 ++ [x]).Nodup
      rw [List.nodup_append]
      refine ⟨h.nodup, by simp, fun a ha b hb => ?_⟩
      simp at hb; subst hb
      rintro rfl
      exact (h.node a ha).2 he
    · show y < m ∧ dat (s.1.set x n) y ≠ -1
      rw [dat_set hxl]
      rcases List.mem_append.1 hy with h1 | h1
      · refine ⟨(h.node y h1).1, ?_⟩
        split
        · omega
        · exact (h.node y h1).2
      · simp at h1; subst h1
        exact ⟨hx, by rw [if_pos rfl]; omega⟩
    · show -1 ≤ dat (s.1.set x n) y ∧ dat (s.1.set x n) y < m
      rw [dat_set hxl]
      split
      · omega
      · exact h.lo y
  · exact h
theorem lq_fold {m n : Nat} (hn : n < m) : ∀ (l : List Nat) (_ : ∀ x ∈ l, x < m) {s : LdQ}, LQ m n s → LQ m n (l.foldl (lvisit n) s)
  | [], _, _, h => h
  | x :: l, hl, _, h => lq_fold hn l (fun y hy => hl y (List.mem_cons_of_mem _ hy)) (h.visit hn (hl x (by simp)))
theorem LQ.proc {m n : Nat} {s : LdQ} {back : List (List Nat)} (hn : n < m) (hb : ∀ u x, x ∈ row back u → x < m) (h : LQ m n s) (u : Nat) : LQ m n (lproc back n s u) := lq_fold hn _ (hb u) h
theorem lq_bfs {m n : Nat} {back : List (List Nat)} (hn : n < m) (hb : ∀ u x, x ∈ row back u → x < m) : ∀ (f h : Nat) {s : LdQ}, LQ m n s → LQ m n (lbfs back n f h s)
  | 0, _, _, h => h
  | f + 1, k, s, h => by
    unfold lbfs
    split
    · exact h
    · exact lq_bfs hn hb f (k + 1) (h.proc hn hb _)
theorem LQ.start {m n : Nat} {D : List Int} (hl : D.length = m) (hlo : ∀ x, -1 ≤ dat D x ∧ dat D x < m) (hn : n < m) : LQ m n (D.set n n, [n]) := by
  have hnl : n < D.length := by rw [hl]; exact hn
  refine ⟨by simp [hl], by simp, fun x hx => ?_, fun y => ?_⟩
  · simp at hx; subst hx
    exact ⟨hn, by show dat (D.set x x) x ≠ -1; rw [dat_set hnl, if_pos rfl]; omega⟩
  · show -1 ≤ dat (D.set n n) y ∧ dat (D.set n n) y < m
    rw [dat_set hnl]
    split
    · omega
    · exact hlo y
theorem foldl_snoc {α β : Type} (f : β → α → β) (s : β) (l : List α) (x : α) : (l ++ [x]).foldl f s = f (l.foldl f s) x := by rw [List.foldl_append]; rfl
/-- A list of leaders so far. -/
structure LdOk (m : Nat) (D : List Int) : Prop where
  len : D.length = m
  lo : ∀ x, -1 ≤ dat D x ∧ dat D x < m
theorem LQ.ok {m n : Nat} {s : LdQ} (h : LQ m n s) : LdOk m s.1 := ⟨h.len, h.lo⟩
theorem LdOk.claim {m : Nat} {D : List Int} {back : List (List Nat)} (h : LdOk m D) {n : Nat} (hn : n < m) (hb : ∀ u x, x ∈ row back u → x < m) : LdOk m (Proofs.Ytnhhhnhakpambaa.claim back D n) := by
  unfold Proofs.Ytnhhhnhakpambaa.claim
  split
  · exact (lq_bfs hn hb _ _ (LQ.start h.len h.lo hn)).ok
  · exact h
theorem ldok_start (m : Nat) : LdOk m (List.replicate m (-1)) := ⟨by simp, fun x => by rw [dat_repl]; omega⟩
end Go.Proofs.Ytnhhhnhakpambaa
