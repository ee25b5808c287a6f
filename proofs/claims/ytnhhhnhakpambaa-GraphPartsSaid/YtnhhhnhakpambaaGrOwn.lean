/- Rows of the call's own that are read and stored to; graphs that the call builds. -/
import Derived.Test.YtnhhhnhakpambaaRef03
import Derived.Laws.OwnMore
import Derived.ArgAppend
namespace Go.Proofs.Ytnhhhnhakpambaa
open Go.RowKit

theorem info_ints : (Try.prog.info? 38).map (fun i => (i.zero, i.size, i.bytes)) = some (some (.slice none 0 0), 1, 24) := by kernel_rfl
theorem info_bool : (Try.prog.info? 4).map (fun i => (i.zero, i.size, i.bytes)) = some (some (.bool false), 1, 1) := by kernel_rfl
/-- Block g holds the cells cs, of type t. -/
def Row (w : World) (g : Nat) (t : TypeId) (cs : List Value) : Prop := w.heap[g]? = some (.cells cs.toArray t (0, 0))
section
variable {w w' : World} {g : Nat} {t : TypeId} {cs : List Value}
theorem Row.lt (h : Row w g t cs) : g < w.heap.size := lt_of_some h
theorem Row.cell (h : Row w g t cs) {i : Nat} {v : Value} (hi : cs[i]? = some v) : w.cell? ⟨g, i, none⟩ = some v := by
  rw [cell_of_row w g i _ _ _ h]; simpa using hi
theorem Row.free (h : Row w g t cs) (i : Nat) : w.frozen? ⟨g, i, none⟩ = false := by
  have h' : w.heap[g]? = _ := h
  simp [World.frozen?, h']
theorem Row.set (h : Row w g t cs) (i : Nat) (v : Value) : Row (w.setCell ⟨g, i, none⟩ v) g t (cs.set i v) := by
  have := heap_setCell_same w g i cs.toArray t v h
  unfold Row
  rw [this]
  simp
theorem Row.below {B : Nat} (h : Row w g t cs) (hb : Below B w w') (hg : g < B) : Row w' g t cs := (hb.block g hg).trans h
theorem Row.keep (h : Row w g t cs) (hb : Below w.heap.size w w') : Row w' g t cs := h.below hb h.lt
theorem Row.other {a : Addr} {u : Value} (h : Row w g t cs) (ha : g ≠ a.block) : Row (w.setCell a u) g t cs := (Below.heap_setCell w a u g ha).trans h
theorem Row.sl {α : Type} {f : α → Value} {xs : List α} {n : Nat} (h : Row w g t (xs.map f)) (hn : xs.length = n) : Sl f w (.slice (some ⟨g, 0, none⟩) n n) xs := by
  refine .inr ⟨⟨g, 0, none⟩, n, by rw [hn], by omega, fun j b hj => ?_⟩
  have e : (⟨g, 0, none⟩ : Addr).add j = ⟨g, j, none⟩ := by unfold Addr.add; split <;> simp_all
  rw [e]
  exact h.cell (by rw [List.getElem?_map, hj]; rfl)
theorem Row.of_own {B n : Nat} (h : w.ownsRow B t 1 (.slice (some ⟨g, 0, none⟩) n n) n cs) : Row w g t cs := by
  rcases h.2 with ⟨h0, _⟩ | ⟨g', cap, cur, h1, _, hh, _, _, h3, h4⟩
  · cases h0
  · simp only [Value.slice.injEq, Option.some.injEq, Addr.mk.injEq, and_true, true_and] at h1
    obtain ⟨rfl, rfl⟩ := h1
    rw [Nat.mul_one] at h3 h4
    rw [List.take_of_length_le (by rw [Array.length_toList, h3]; exact Nat.le_refl _)] at h4
    unfold Row
    rw [hh, ← h4]
end
theorem lit_sl {α : Type} (f : α → Value) (w : World) (e : TypeId) (cs : Array Value) (n : Nat) (xs : List α) (hn : xs.length = n) (hc : cs.toList = xs.map f) (fr : Nat × Nat) : Sl f (w.alloc (.cells cs e fr)) (.slice (some ⟨w.heap.size, 0, none⟩) n n) xs := by
  refine .inr ⟨⟨w.heap.size, 0, none⟩, n, by rw [hn], by omega, fun j b hj => ?_⟩
  have e' : (⟨w.heap.size, 0, none⟩ : Addr).add j = ⟨w.heap.size, j, none⟩ := by unfold Addr.add; split <;> simp_all
  rw [e', cell_of_row _ w.heap.size j _ _ _ (heap_alloc_new w _), ← Array.getElem?_toList, hc]
  simp [hj]
theorem below_alloc (w : World) (o : Obj) : Below w.heap.size w (w.alloc o) := (Below.refl _ w).alloc (Nat.le_refl _) o
theorem grownBy_trans {a b c : World} {r : Option Nat} (h : a.grownBy b r) (k : b.grownBy c r) : a.grownBy c r :=
  ⟨k.os.trans h.os, k.tape.trans h.tape, k.output.trans h.output, Nat.le_trans h.size k.size, fun i hi hn => (k.block i (Nat.lt_of_lt_of_le hi h.size) hn).trans (h.block i hi hn)⟩
theorem grownBy_none {a b : World} {r : Option Nat} (h : a.grownBy b none) : a.grownBy b r := ⟨h.os, h.tape, h.output, h.size, fun i hi _ => h.block i hi (by simp)⟩
/-- The row v' is the row v, or new. -/
def Fresh (w : World) (v v' : Value) : Prop := ∃ b, v'.ownBlock = some b ∧ (v.ownBlock = some b ∨ w.heap.size ≤ b)
/-- append(s, c) of one element onto one row of several. -/
theorem app1T {P : Program} {w : World} {ops : Array Oper} {rest : List Oper} {o : Oper} {a : Act} {Q : Exit → Act → World → Prop} (hgd : o.guard = none) (s x : Operand) (t : TypeId)
    (ho : o.op = .call { callee := .builtin .append, args := #[s, x], argTypes := #[t, t] })
    (e : TypeId) (z : Value) (by_ : Nat) (hinfo : (P.info? e).map (fun i => (i.zero, i.size, i.bytes)) = some (some z, 1, by_)) (hzs : z.cells.size = 1) (ht : P.underlying t = some (.slice e))
    (B : Nat) (v : Value) (n : Nat) (xs : List Value) (hs : a.eval s = v) (hown : w.ownsRow B e 1 v n xs) (c : Value) (hx : a.eval x = .slice (some ⟨w.heap.size, 0, none⟩) 1 1) (h1 : c.oneCell' = true)
    (hr : (n + 1) * by_ ≤ 140737488355328) (hm : n + 1 ≤ 140737488355328) (hB : B ≤ w.heap.size)
    (h : ∀ v' w', w'.ownsRow B e 1 v' (n + 1) (xs ++ [c]) → w.grownBy w' v.ownBlock → Fresh w v v' → wpList P ops Q rest (a.put o.dst v') w') : wpList P ops Q (o :: rest) a (w.alloc (.cells #[c] e)) := by
  obtain ⟨i0, hi, hz0, hz1, hz2⟩ := info_parts hinfo
  have hnews : ∀ j u, [c][j]? = some u → (w.alloc (.cells #[c] e)).cell? ((⟨w.heap.size, 0, none⟩ : Addr).add j) = some u := by
    intro j u hj
    match j, hj with
    | 0, hj => simp at hj; subst hj; simp [Addr.add]
  have hone : ∀ u ∈ [c], u.oneCell' = true := by intro u hu; simp at hu; subst hu; exact h1
  have up : ∀ {v' : Value} {w' : World}, w'.ownsRow (w.alloc (.cells #[c] e)).heap.size e 1 v' (n + 1) (xs ++ [c]) → w'.ownsRow B e 1 v' (n + 1) (xs ++ [c]) ∧ Fresh w v v' := by
    intro v' w' ho'
    refine ⟨⟨ho'.1, ?_⟩, ?_⟩
    · rcases ho'.2 with ⟨_, h0⟩ | ⟨g, cap, cur, h2, h3, h4⟩
      · omega
      · exact .inr ⟨g, cap, cur, h2, by simp at h3; omega, h4⟩
    · rcases ho'.2 with ⟨_, h0⟩ | ⟨g, cap, cur, h2, h3, h4⟩
      · omega
      · exact ⟨g, by rw [h2]; rfl, .inr (by simp at h3; omega)⟩
  rcases hown.2 with ⟨rfl, rfl⟩ | ⟨g, cap, cur, rfl, hbg, hg, hnc, hcm, hcs, htake⟩
  · have hx0 : xs = [] := List.eq_nil_of_length_eq_zero (by simpa using hown.1)
    subst hx0
    refine wpList_append_grows _ hgd s x t ho e i0 z 1 by_ ht hi hz0 hz1 hz2 hzs (by decide) none 0 0 [] hs (fun _ => ⟨rfl, rfl⟩) rfl (by intro b hb; cases hb) ⟨w.heap.size, 0, none⟩ 1 1 [c] hx rfl hnews hone (by omega) (by unfold maxLen; omega) hr ?_
    intro v' w' ho' hgr
    obtain ⟨k1, k2⟩ := up ho'
    exact h v' w' k1 (grownBy_trans (World.grownBy_alloc w _ _) (grownBy_none hgr)) k2
  · by_cases hroom : n + 1 ≤ cap
    · refine wpList_append_fits _ hgd s x t ho B e i0 1 ht hi hz1 g n cap xs hs (hown.alloc _) ⟨w.heap.size, 0, none⟩ 1 1 [c] hx rfl hnews hone hroom ?_
      intro w' ho' hgr
      exact h _ w' ho' (grownBy_trans (World.grownBy_alloc w _ _) hgr) ⟨g, rfl, .inl rfl⟩
    · have holds : ∀ b, some (⟨g, 0, none⟩ : Addr) = some b → ∀ j u, xs[j]? = some u → (w.alloc (.cells #[c] e)).cell? (b.add j) = some u := fun b hb j u hj => by
        cases hb
        exact (hown.alloc (.cells #[c] e)).cells (g := g) rfl j u hj
      refine wpList_append_grows _ hgd s x t ho e i0 z 1 by_ ht hi hz0 hz1 hz2 hzs (by decide) (some ⟨g, 0, none⟩) n cap xs hs (fun hh => by cases hh) hown.1 holds ⟨w.heap.size, 0, none⟩ 1 1 [c] hx rfl hnews hone (by omega) (by unfold maxLen; omega) hr ?_
      intro v' w' ho' hgr
      obtain ⟨k1, k2⟩ := up ho'
      exact h v' w' k1 (grownBy_trans (World.grownBy_alloc w _ _) (grownBy_none hgr)) k2

/-- Block g holds the rows vals, each one of the call's own, from B on, and no two the same: together the lists ls. -/
structure GRows (w : World) (B g : Nat) (vals : List Value) (ls : List (List Nat)) : Prop where
  row : Row w g 38 vals
  len : vals.length = ls.length
  lt : g < B
  base : B ≤ w.heap.size
  own : ∀ (i : Nat) v l, vals[i]? = some v → ls[i]? = some l → w.ownsRow B 3 1 v l.length (l.map nv)
  apart : ∀ (i j : Nat) v u b, vals[i]? = some v → vals[j]? = some u → v.ownBlock = some b → u.ownBlock = some b → i = j
theorem GRows.start {w : World} {B g n : Nat} (h : Row w g 38 (List.replicate n (.slice none 0 0))) (hg : g < B) (hB : B ≤ w.heap.size) : GRows w B g (List.replicate n (.slice none 0 0)) (List.replicate n []) := by
  refine ⟨h, by simp, hg, hB, fun i v l hv hl => ?_, fun i j v u b hv _ hb _ => ?_⟩
  · rw [List.getElem?_replicate] at hv hl
    split at hv
    · rename_i hlt
      rw [if_pos hlt] at hl
      cases hv; cases hl
      exact World.ownsRow_nil _ _ _ _
    · cases hv
  · rw [List.getElem?_replicate] at hv
    split at hv
    · cases hv; cases hb
    · cases hv
theorem GRows.alloc {w : World} {B g : Nat} {vals : List Value} {ls : List (List Nat)} (h : GRows w B g vals ls) (o : Obj) : GRows (w.alloc o) B g vals ls :=
  ⟨h.row.keep ((Below.refl _ _).alloc (Nat.le_refl _) _), h.len, h.lt, Nat.le_trans h.base (by simp), fun i v l hv hl => (h.own i v l hv hl).alloc o, h.apart⟩
theorem GRows.drewN {w : World} {B g : Nat} {vals : List Value} {ls : List (List Nat)} (h : GRows w B g vals ls) (n : Nat) : GRows (w.drewN n) B g vals ls := ⟨h.row, h.len, h.lt, h.base, h.own, h.apart⟩
/-- Onto row j: what the append leaves, and the row stored back. -/
theorem GRows.push {w w1 : World} {B g j x : Nat} {vals : List Value} {ls : List (List Nat)} {v v' : Value} {l : List Nat} (h : GRows w B g vals ls) (hv : vals[j]? = some v) (hl : ls[j]? = some l)
    (ho : w1.ownsRow B 3 1 v' (l.length + 1) (l.map nv ++ [nv x])) (hgr : w.grownBy w1 v.ownBlock) (hf : Fresh w v v') :
    GRows (w1.setCell ⟨g, j, none⟩ v') B g (vals.set j v') (ls.set j (l ++ [x])) := by
  have hjv : j < vals.length := (List.getElem?_eq_some_iff.1 hv).1
  have hjl : j < ls.length := (List.getElem?_eq_some_iff.1 hl).1
  have hgne : some g ≠ v.ownBlock := fun e => by
    have := (h.own j v l hv hl).lt g e.symm
    have := h.lt
    omega
  have hrow1 : Row w1 g 38 vals := (hgr.block g h.row.lt hgne).trans h.row
  obtain ⟨b', hb', hbf⟩ := hf
  refine ⟨hrow1.set j v', by simp [h.len], h.lt, Nat.le_trans h.base (Nat.le_trans hgr.size (by simp [World.setCell])), fun i u m hu hm => ?_, fun i k u y b hu hy hub hyb => ?_⟩
  · rw [List.getElem?_set] at hu hm
    by_cases e : j = i
    · subst e
      rw [if_pos rfl, if_pos hjv] at hu
      rw [if_pos rfl, if_pos hjl] at hm
      cases hu; cases hm
      rw [List.map_append, List.length_append]
      exact ownsRow_setCell_below ho (a := ⟨g, j, none⟩) h.lt v'
    · rw [if_neg e] at hu hm
      have hk := h.own i u m hu hm
      have hne : u.ownBlock = none ∨ u.ownBlock ≠ v.ownBlock := by
        cases hub : u.ownBlock with
        | none => exact .inl rfl
        | some b => exact .inr fun e2 => e (h.apart i j u v b hu hv hub (by rw [← e2])).symm
      exact ownsRow_setCell_below (hk.kept hgr hne) (a := ⟨g, j, none⟩) h.lt v'
  · rw [List.getElem?_set] at hu hy
    have old : ∀ (m : Nat) (y : Value) (b : Nat), vals[m]? = some y → y.ownBlock = some b → b = b' → m = j := fun m y b hm hyb hbe => by
      subst hbe
      rcases hbf with h1 | h1
      · exact h.apart m j y v b hm hv hyb h1
      · have hlm : ∃ lm, ls[m]? = some lm := ⟨_, List.getElem?_eq_getElem (by rw [← h.len]; exact (List.getElem?_eq_some_iff.1 hm).1)⟩
        obtain ⟨lm, hlm⟩ := hlm
        have := (h.own m y lm hm hlm).lt b hyb
        omega
    by_cases e1 : j = i <;> by_cases e2 : j = k
    · omega
    · rw [if_pos e1, if_pos (by omega)] at hu
      rw [if_neg e2] at hy
      cases hu
      rw [hb'] at hub; cases hub
      exact absurd (old k y b' hy hyb rfl).symm e2
    · rw [if_pos e2, if_pos (by omega)] at hy
      rw [if_neg e1] at hu
      cases hy
      rw [hb'] at hyb; cases hyb
      exact absurd (old i u b' hu hub rfl).symm e1
    · rw [if_neg e1] at hu
      rw [if_neg e2] at hy
      exact h.apart i k u y b hu hy hub hyb
theorem GRows.after {w w1 : World} {B g j : Nat} {vals : List Value} {ls : List (List Nat)} {v : Value} {l : List Nat} (h : GRows w B g vals ls) (hv : vals[j]? = some v) (hl : ls[j]? = some l) (hgr : w.grownBy w1 v.ownBlock) : Row w1 g 38 vals :=
  (hgr.block g h.row.lt (fun e => by
    have := (h.own j v l hv hl).lt g e.symm
    have := h.lt
    omega)).trans h.row
theorem GRows.gr {w : World} {B g n : Nat} {vals : List Value} {ls : List (List Nat)} (h : GRows w B g vals ls) (hn : ls.length = n) : Gr nv w (.slice (some ⟨g, 0, none⟩) n n) ls :=
  ⟨vals, Row.sl (f := id) (by simpa using h.row) (by rw [h.len, hn]), h.len, fun i r l hr hl => Sl.of_own (h.own i r l hr hl)⟩
/-- The frame of a push. -/
theorem push_below {w0 w w1 : World} {B0 B g j : Nat} {v v' : Value} {e : Nat} {n : Nat} {xs : List Value} (hb : Below B0 w0 w) (hs : B0 ≤ w.heap.size) (ho : w.ownsRow B e 1 v n xs) (hgr : w.grownBy w1 v.ownBlock) (h0 : B0 ≤ g) (hB : B0 ≤ B) : Below B0 w0 (w1.setCell ⟨g, j, none⟩ v') :=
  (hb.grown hgr hs (fun k e => Nat.le_trans hB (ho.lt k e).1)).setCell h0 v'
end Go.Proofs.Ytnhhhnhakpambaa
