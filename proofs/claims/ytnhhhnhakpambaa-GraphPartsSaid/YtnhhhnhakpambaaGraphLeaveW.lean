/- The memory of the search in depth. -/
import Derived.Test.YtnhhhnhakpambaaGraphLeave
import Derived.Test.YtnhhhnhakpambaaGraphDist
namespace Go.Proofs.Ytnhhhnhakpambaa
open Go.RowKit

/-- Two rows lie in different blocks. -/
def Apart (v u : Value) : Prop := ∀ b, v.ownBlock = some b → u.ownBlock = some b → False
theorem Apart.symm {v u : Value} (h : Apart v u) : Apart u v := fun b h1 h2 => h b h2 h1
theorem two_kept {w w1 : World} {B e m : Nat} {v u v' : Value} {ys : List Value} (hu : w.ownsRow B e 1 u m ys) (ha : Apart v u) (hgr : w.grownBy w1 v.ownBlock) (hf : Fresh w v v') : w1.ownsRow B e 1 u m ys ∧ Apart v' u := by
  refine ⟨hu.kept hgr ?_, fun b h1 h2 => ?_⟩
  · cases hub : u.ownBlock with
    | none => exact .inl rfl
    | some b => exact .inr fun e => ha b e.symm hub
  · obtain ⟨b', h3, h4⟩ := hf
    rw [h1] at h3; cases h3
    rcases h4 with h4 | h4
    · exact ha b h4 h2
    · have := (hu.lt b h2).2; omega
theorem own_drop {w : World} {B e g n cap : Nat} {xs : List Value} {x : Value} (h : w.ownsRow B e 1 (.slice (some ⟨g, 0, none⟩) (n + 1) cap) (n + 1) (xs ++ [x])) : w.ownsRow B e 1 (.slice (some ⟨g, 0, none⟩) n cap) n xs := by
  obtain ⟨h1, h2⟩ := h
  have hl : xs.length = n := by simpa using h1
  refine ⟨by simpa using hl, ?_⟩
  rcases h2 with ⟨h2, _⟩ | ⟨g', c', cur, h2, h3, h4, h5, h6, h7, h8⟩
  · cases h2
  · simp only [Value.slice.injEq, Option.some.injEq, Addr.mk.injEq, and_true, true_and] at h2
    obtain ⟨rfl, rfl⟩ := h2
    refine .inr ⟨g, cap, cur, rfl, h3, h4, by omega, h6, h7, ?_⟩
    have e := congrArg (List.take n) h8
    rw [List.take_take, show min n ((n + 1) * 1) = n by omega] at e
    rw [Nat.mul_one, e, ← hl]
    exact List.take_left
structure LMem (w0 : World) (B gs gt : Nat) (s : LSt) (lv sv : Value) (w : World) : Prop where
  left : w.ownsRow B 3 1 lv s.left.length (s.left.map nv)
  stack : w.ownsRow B 3 1 sv s.stack.length (s.stack.map nv)
  apart : Apart sv lv
  seen : Row w gs 4 (s.seen.map Value.bool)
  tried : Row w gt 3 (s.tried.map nv)
  ne : gs ≠ gt
  ls : gs < B
  lt : gt < B
  hs : w0.heap.size ≤ gs
  ht : w0.heap.size ≤ gt
  below : Below w0.heap.size w0 w
  size : B ≤ w.heap.size
section
variable {w0 w : World} {B gs gt : Nat} {s : LSt} {lv sv : Value}
theorem LMem.drewN (h : LMem w0 B gs gt s lv sv w) (q : Nat) : LMem w0 B gs gt s lv sv (w.drewN q) :=
  ⟨h.left, h.stack, h.apart, h.seen, h.tried, h.ne, h.ls, h.lt, h.hs, h.ht, ⟨h.below.os, h.below.tape, h.below.output, h.below.size, h.below.block⟩, h.size⟩
theorem LMem.setT (h : LMem w0 B gs gt s lv sv w) (n v : Nat) : LMem w0 B gs gt { s with tried := s.tried.set n v } lv sv (w.setCell ⟨gt, n, none⟩ (.int .i64 (v : Int))) :=
  ⟨ownsRow_setCell_below h.left (a := ⟨gt, n, none⟩) h.lt _, ownsRow_setCell_below h.stack (a := ⟨gt, n, none⟩) h.lt _, h.apart, h.seen.other (a := ⟨gt, n, none⟩) h.ne,
    by show Row _ _ _ ((s.tried.set n v).map nv); rw [List.map_set]; exact h.tried.set n _, h.ne, h.ls, h.lt, h.hs, h.ht, h.below.setCell (p := ⟨gt, n, none⟩) h.ht _, by rw [size_setCell]; exact h.size⟩
theorem LMem.setT1 {t : Nat} (h : LMem w0 B gs gt s lv sv w) (n : Nat) (ht : t = tr s n) : LMem w0 B gs gt { s with tried := s.tried.set n (tr s n + 1) } lv sv (w.setCell ⟨gt, n, none⟩ (.int .i64 ((t : Int) + 1))) := by
  subst ht; exact h.setT n (tr s n + 1)
theorem LMem.setS (h : LMem w0 B gs gt s lv sv w) (n : Nat) : LMem w0 B gs gt { s with seen := s.seen.set n true } lv sv (w.setCell ⟨gs, n, none⟩ (.bool true)) :=
  ⟨ownsRow_setCell_below h.left (a := ⟨gs, n, none⟩) h.ls _, ownsRow_setCell_below h.stack (a := ⟨gs, n, none⟩) h.ls _, h.apart,
    by show Row _ _ _ ((s.seen.set n true).map Value.bool); rw [List.map_set]; exact h.seen.set n _, h.tried.other (a := ⟨gs, n, none⟩) h.ne.symm, h.ne, h.ls, h.lt, h.hs, h.ht, h.below.setCell (p := ⟨gs, n, none⟩) h.hs _, by rw [size_setCell]; exact h.size⟩
theorem LMem.rows {w1 : World} {v : Value} {n : Nat} {xs : List Value} (h : LMem w0 B gs gt s lv sv w) (ho : w.ownsRow B 3 1 v n xs) (hgr : w.grownBy w1 v.ownBlock) :
    Row w1 gs 4 (s.seen.map Value.bool) ∧ Row w1 gt 3 (s.tried.map nv) ∧ Below w0.heap.size w0 w1 ∧ B ≤ w1.heap.size := by
  have hne : ∀ g, g < B → some g ≠ v.ownBlock := fun g hg e => by have := (ho.lt g e.symm).1; omega
  refine ⟨(hgr.block gs h.seen.lt (hne gs h.ls)).trans h.seen, (hgr.block gt h.tried.lt (hne gt h.lt)).trans h.tried, h.below.grown hgr h.below.size (fun k e => ?_), Nat.le_trans h.size hgr.size⟩
  have h1 := (ho.lt k e).1
  have h2 := h.hs
  have h3 := h.ls
  omega
theorem LMem.pushS {w1 : World} {v' : Value} {x : Nat} (h : LMem w0 B gs gt s lv sv w) (ho : w1.ownsRow B 3 1 v' (s.stack.length + 1) (s.stack.map nv ++ [.int .i64 (x : Int)])) (hgr : w.grownBy w1 sv.ownBlock) (hf : Fresh w sv v') :
    LMem w0 B gs gt { s with stack := s.stack ++ [x] } lv v' w1 := by
  obtain ⟨h1, h2⟩ := two_kept h.left h.apart hgr hf
  obtain ⟨h3, h4, h5, h6⟩ := h.rows h.stack hgr
  exact ⟨h1, by rw [List.length_append, List.map_append]; exact ho, h2, h3, h4, h.ne, h.ls, h.lt, h.hs, h.ht, h5, h6⟩
theorem LMem.pushL {w1 : World} {v' : Value} {x : Nat} (h : LMem w0 B gs gt s lv sv w) (ho : w1.ownsRow B 3 1 v' (s.left.length + 1) (s.left.map nv ++ [.int .i64 (x : Int)])) (hgr : w.grownBy w1 lv.ownBlock) (hf : Fresh w lv v') :
    LMem w0 B gs gt { s with left := s.left ++ [x] } v' sv w1 := by
  obtain ⟨h1, h2⟩ := two_kept h.stack h.apart.symm hgr hf
  obtain ⟨h3, h4, h5, h6⟩ := h.rows h.left hgr
  exact ⟨by rw [List.length_append, List.map_append]; exact ho, h1, h2.symm, h3, h4, h.ne, h.ls, h.lt, h.hs, h.ht, h5, h6⟩
theorem LMem.drop {st : List Nat} {n b cap : Nat} (h : LMem w0 B gs gt s lv (.slice (some ⟨b, 0, none⟩) (st.length + 1) cap) w) (hs : s.stack = st ++ [n]) : LMem w0 B gs gt { s with stack := st } lv (.slice (some ⟨b, 0, none⟩) st.length cap) w := by
  have h1 := h.stack
  rw [hs, List.length_append, List.map_append] at h1
  exact ⟨h.left, own_drop h1, h.apart, h.seen, h.tried, h.ne, h.ls, h.lt, h.hs, h.ht, h.below, h.size⟩
end
end Go.Proofs.Ytnhhhnhakpambaa
