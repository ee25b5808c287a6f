/- Slices of one-cell elements, read and appended to, whatever the element. -/
import Derived.Test.YtnainhpcmoekcaaGreatDoorBytes
import Derived.OwnWalk
import Derived.Laws.OwnMore
namespace Go.Proofs.YtnainhpcmoekcaaGreatDoor
open Go.RowKit

def uv (n : Nat) : Value := .int .u64 (n : Int)
def iv (n : Int) : Value := .int .i64 n
/-- v is a slice that holds the values xs, in blocks that are there, or nil without any. -/
def Sl {α : Type} (f : α → Value) (w : World) (v : Value) (xs : List α) : Prop :=
 (v = .slice none 0 0 ∧ xs = []) ∨ ∃ ad c, v = .slice (some ad) xs.length c ∧ xs.length ≤ c ∧ ∀ j b, xs[j]? = some b → w.cell? (ad.add j) = some (f b)
section
variable {α : Type} {f : α → Value} {w w' : World} {v : Value} {xs : List α}
theorem Sl.below (h : Sl f w v xs) (hb : Below w.heap.size w w') : Sl f w' v xs := by
 rcases h with h | ⟨ad, c, hv, hc, hcell⟩
 ·exact .inl h
 ·refine .inr ⟨ad, c, hv, hc, fun j b hj => ?_⟩
  have h1 := hcell j b hj
  rw [hb.cell (World.block_lt_of_cell? _ _ h1), h1]
theorem Sl.shape (h : Sl f w v xs) : ∃ A c, v = .slice A xs.length c := by
 rcases h with ⟨rfl, rfl⟩ | ⟨ad, c, rfl, _⟩
 ·exact ⟨none, 0, rfl⟩
 ·exact ⟨some ad, c, rfl⟩
theorem Sl.drewN (h : Sl f w v xs) (n : Nat) : Sl f (w.drewN n) v xs := h
theorem Sl.nil : Sl f w (.slice none 0 0) [] := .inl ⟨rfl, rfl⟩
theorem Sl.of_own {B e : Nat} {n : Nat} (h : w.ownsRow B e 1 v n (xs.map f)) : Sl f w v xs := by
 have hl : xs.length = n := by simpa using h.1
 have hcl := @World.ownsRow.cells _ _ _ _ _ _ _ h
 rcases h.2 with ⟨rfl, h0⟩ | ⟨g, cap, cur, rfl, _, _, hn, _⟩
 ·exact .inl ⟨rfl, List.eq_nil_of_length_eq_zero (by omega)⟩
 ·refine .inr ⟨⟨g, 0, none⟩, cap, by rw [hl], by omega, fun j b hj => ?_⟩
  have hcl := hcl (g := g) rfl j (f b) (by simp [hj])
  exact hcl
theorem Sl.take (ad : Addr) (c n k : Nat) (h : Sl f w (.slice (some ad) n c) xs) (hk : k ≤ n) : Sl f w (.slice (some ad) k c) (xs.take k) := by
 rcases h with ⟨h, _⟩ | ⟨ad', c', h, h2, hc⟩
 ·cases h
 ·simp only [Value.slice.injEq, Option.some.injEq] at h
  obtain ⟨rfl, h3, rfl⟩ := h
  have hl : (xs.take k).length = k := by rw [List.length_take]; omega
  refine .inr ⟨ad, c, by rw [hl], by omega, fun j b hj => ?_⟩
  have hj2 : j < k := by have := (List.getElem?_eq_some_iff.1 hj).1; omega
  rw [List.getElem?_take, if_pos hj2] at hj
  exact hc j b hj
end

theorem sl_cell {α : Type} {f : α → Value} {w : World} {v : Value} {xs : List α} (h : Sl f w v xs) (k : Nat) (hk : k < xs.length) : ∃ ad c, v = .slice (some ad) xs.length c ∧ xs.length ≤ c ∧ w.cell? (ad.add k) = some (f xs[k]) := by
 rcases h with ⟨rfl, rfl⟩ | ⟨ad, c, rfl, hc, hcell⟩
 ·simp at hk
 ·exact ⟨ad, c, rfl, hc, hcell k _ (List.getElem?_eq_getElem hk)⟩
theorem own_litS (w : World) (e : TypeId) (cs : Array Value) (n g : Nat) (xs : List Value) (hn : xs.length = n) (hc : cs.toList = xs) (hm : n ≤ maxLen) (hg : g = w.heap.size) :
  (w.alloc (.cells cs e)).ownsRow g e 1 (.slice (some ⟨g, 0, none⟩) n n) n xs := by
 subst hg
 refine ⟨by simpa using hn, .inr ⟨w.heap.size, n, cs, rfl, Nat.le_refl _, heap_alloc_new w _, Nat.le_refl _, hm, ?_, ?_⟩⟩
 ·rw [← Array.length_toList, hc, hn]; simp
 ·rw [hc, ← hn]; simp
theorem map_one {α : Type} {f : α → Value} (hf : ∀ x, (f x).oneCell' = true) (l : List α) : ∀ u ∈ l.map f, u.oneCell' = true := by
 intro u hu
 obtain ⟨c, _, rfl⟩ := List.mem_map.1 hu
 exact hf c
/-- append(s, x...), s a row of the call's own, x a slice that is read. -/
theorem appS {α : Type} {f : α → Value} {P : Program} {w : World} {ops : Array Oper} {rest : List Oper} {o : Oper} {a : Act} {Q : Exit → Act → World → Prop} (hgd : o.guard = none) (s x : Operand) (t : TypeId)
  (ho : o.op = .call { callee := .builtin .append, args := #[s, x], argTypes := #[t, t] })
  (e : TypeId) (z : Value) (by_ : Nat) (hinfo : (P.info? e).map (fun i => (i.zero, i.size, i.bytes)) = some (some z, 1, by_)) (hzs : z.cells.size = 1) (ht : P.underlying t = some (.slice e)) (hf : ∀ x, (f x).oneCell' = true)
  (B : Nat) (v : Value) (n : Nat) (xs : List Value) (hs : a.eval s = v) (hown : w.ownsRow B e 1 v n xs) (u : Value) (ys : List α) (hx : a.eval x = u) (hb : Sl f w u ys)
  (hr : (n + ys.length) * by_ ≤ 140737488355328) (hm : n + ys.length ≤ 140737488355328) (hB : B ≤ w.heap.size)
  (h : ∀ v' w', w'.ownsRow B e 1 v' (n + ys.length) (xs ++ ys.map f) → Frm e B w w' → wpList P ops Q rest (a.put o.dst v') w') : wpList P ops Q (o :: rest) a w := by
 obtain ⟨i0, hi, hz0, hz1, hz2⟩ := info_parts hinfo
 rcases hb with ⟨rfl, rfl⟩ | ⟨ad, c, rfl, hc, hcell⟩
 ·refine wpList_append_own_none hgd s x t ho B e i0 1 ht hi v n xs hs hown hx ?_
  exact h v w (by simpa using hown) (Frm.refl _ _ _)
 ·refine wpList_append_own _ hgd s x t ho B e i0 z 1 by_ ht hi hz0 hz1 hz2 hzs (by decide) v n xs hs hown ad ys.length c (ys.map f) hx (by simp) ?_ (map_one hf ys) (by unfold maxLen; omega) hr hB ?_
  ·intro j u hj
   rw [List.getElem?_map] at hj
   cases hjx : ys[j]? with
   | none => rw [hjx] at hj; cases hj
   | some b => rw [hjx] at hj; cases hj; exact hcell j b hjx
  ·intro v' w' hown' hg _
   exact h v' w' hown' (Frm.grown hown hg)
/-- append(s, c) of one element: it lies in a new block first. -/
theorem app1S {P : Program} {w : World} {ops : Array Oper} {rest : List Oper} {o : Oper} {a : Act} {Q : Exit → Act → World → Prop} (hgd : o.guard = none) (s x : Operand) (t : TypeId)
  (ho : o.op = .call { callee := .builtin .append, args := #[s, x], argTypes := #[t, t] })
  (e : TypeId) (z : Value) (by_ : Nat) (hinfo : (P.info? e).map (fun i => (i.zero, i.size, i.bytes)) = some (some z, 1, by_)) (hzs : z.cells.size = 1) (ht : P.underlying t = some (.slice e))
  (B : Nat) (v : Value) (n : Nat) (xs : List Value) (hs : a.eval s = v) (hown : w.ownsRow B e 1 v n xs) (c : Value) (hx : a.eval x = .slice (some ⟨w.heap.size, 0, none⟩) 1 1) (h1 : c.oneCell' = true)
  (hr : (n + 1) * by_ ≤ 140737488355328) (hm : n + 1 ≤ 140737488355328) (hB : B ≤ w.heap.size)
  (h : ∀ v' w', w'.ownsRow B e 1 v' (n + 1) (xs ++ [c]) → Frm e B w w' → wpList P ops Q rest (a.put o.dst v') w') : wpList P ops Q (o :: rest) a (w.alloc (.cells #[c] e)) := by
 obtain ⟨i0, hi, hz0, hz1, hz2⟩ := info_parts hinfo
 refine wpList_append_own _ hgd s x t ho B e i0 z 1 by_ ht hi hz0 hz1 hz2 hzs (by decide) v n xs hs (hown.alloc _) ⟨w.heap.size, 0, none⟩ 1 1 [c] hx rfl ?_ ?_ ?_ hr ?_ ?_
 ·intro j u hj
  match j, hj with
  | 0, hj => simp at hj; subst hj; simp [Addr.add]
 ·intro u hu; simp at hu; subst hu; exact h1
 ·unfold maxLen; omega
 ·simp; omega
 ·intro v' w' hown' hg _
  exact h v' w' hown' ((Frm.alloc_ w _).trans (Frm.grown (hown.alloc _) hg))
/-- An own row that is not empty, or was made, has an address. -/
theorem own_shapeS {w : World} {B e : Nat} {v : Value} {n : Nat} {xs : List Value} (h : w.ownsRow B e 1 v n xs) (hn : v ≠ .slice none 0 0) : ∃ g cap, v = .slice (some ⟨g, 0, none⟩) n cap ∧ B ≤ g ∧ g < w.heap.size ∧ n ≤ cap := by
 rcases h.2 with ⟨rfl, h0⟩ | ⟨g, cap, cur, rfl, hb, hh, hc, _⟩
 ·exact absurd rfl hn
 ·exact ⟨g, cap, rfl, hb, lt_of_some hh, hc⟩
end Go.Proofs.YtnainhpcmoekcaaGreatDoor
