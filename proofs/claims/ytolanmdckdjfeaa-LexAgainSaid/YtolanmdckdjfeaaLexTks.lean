/- Layer 9: lists of tokens in memory. -/
import Derived.Test.YtolanmdckdjfeaaLexRdr
import Derived.Test.YtolanmdckdjfeaaLayLex
namespace Go.Proofs.Ytolanmdckdjfeaa
open Go.RowKit

def tcells (t : Tok) : List Value := [.int .i64 (t.k : Int), .string (ofL t.t), .int .i64 (t.v : Int), .int .i64 (t.p : Int)]
theorem tcells_len (ts : List Tok) : (ts.flatMap tcells).length = ts.length * 4 := by
  induction ts with
  | nil => rfl
  | cons t r ih => rw [List.flatMap_cons, List.length_append, ih, List.length_cons]; show 4 + _ = _; omega
theorem tcells_get : ∀ (ts : List Tok) (j i : Nat) (t : Tok), ts[j]? = some t → i < 4 → (ts.flatMap tcells)[j * 4 + i]? = (tcells t)[i]?
  | [], j, i, t, h, _ => by simp at h
  | a :: r, 0, i, t, h, hi => by
    simp at h; subst h
    rw [List.flatMap_cons, List.getElem?_append_left (by show _ < 4; omega)]
    congr 1; omega
  | a :: r, j + 1, i, t, h, hi => by
    rw [List.flatMap_cons, List.getElem?_append_right (by show 4 ≤ _; omega)]
    rw [show (j + 1) * 4 + i - (tcells a).length = j * 4 + i by show (j + 1) * 4 + i - 4 = _; omega]
    exact tcells_get r j i t (by simpa using h) hi
/-- v is a slice of the tokens ts, or nil without any. -/
def Toks (w : World) (v : Value) (ts : List Tok) : Prop :=
  (v = .slice none 0 0 ∧ ts = []) ∨ ∃ ad c, v = .slice (some ad) ts.length c ∧ ts.length ≤ c ∧ ∀ j t, ts[j]? = some t →
    w.cell? (ad.add (j * 4)) = some (.int .i64 (t.k : Int)) ∧ w.cell? ⟨(ad.add (j * 4)).block, (ad.add (j * 4)).off + 1, none⟩ = some (.string (ofL t.t)) ∧
    w.cell? ⟨(ad.add (j * 4)).block, (ad.add (j * 4)).off + 2, none⟩ = some (.int .i64 (t.v : Int)) ∧ w.cell? ⟨(ad.add (j * 4)).block, (ad.add (j * 4)).off + 3, none⟩ = some (.int .i64 (t.p : Int))
theorem Toks.shape {w : World} {v : Value} {ts : List Tok} (h : Toks w v ts) : ∃ A c, v = .slice A ts.length c := by
  rcases h with ⟨rfl, rfl⟩ | ⟨ad, c, rfl, _⟩
  · exact ⟨none, 0, rfl⟩
  · exact ⟨some ad, c, rfl⟩
theorem Toks.below {w w' : World} {v : Value} {ts : List Tok} (h : Toks w v ts) (hb : Below w.heap.size w w') : Toks w' v ts := by
  rcases h with h | ⟨ad, c, rfl, hc, hcell⟩
  · exact .inl h
  · refine .inr ⟨ad, c, rfl, hc, fun j t ht => ?_⟩
    obtain ⟨h0, h1, h2, h3⟩ := hcell j t ht
    exact ⟨(hb.cell (World.block_lt_of_cell? _ _ h0)).trans h0, (hb.cell (World.block_lt_of_cell? _ _ h1)).trans h1, (hb.cell (World.block_lt_of_cell? _ _ h2)).trans h2, (hb.cell (World.block_lt_of_cell? _ _ h3)).trans h3⟩
theorem Toks.nil (w : World) : Toks w (.slice none 0 0) [] := .inl ⟨rfl, rfl⟩
theorem Toks.of_own {w : World} {B e n : Nat} {v : Value} {ts : List Tok} (h : w.ownsRow B e 4 v n (ts.flatMap tcells)) : Toks w v ts := by
  have hl : ts.length = n := by have := h.1; rw [tcells_len] at this; omega
  have hcl := @World.ownsRow.cells _ _ _ _ _ _ _ h
  rcases h.2 with ⟨rfl, h0⟩ | ⟨g, cap, cur, rfl, _, _, hn, _⟩
  · exact .inl ⟨rfl, List.eq_nil_of_length_eq_zero (by omega)⟩
  · refine .inr ⟨⟨g, 0, none⟩, cap, by rw [hl], by omega, fun j t ht => ?_⟩
    have hcl := hcl (g := g) rfl
    have e : ∀ i, (⟨g, 0, none⟩ : Addr).add i = ⟨g, i, none⟩ := by intro i; unfold Addr.add; split <;> simp_all
    have f : ∀ i, i < 4 → w.cell? ⟨g, j * 4 + i, none⟩ = (tcells t)[i]? := by
      intro i hi
      have h1 := tcells_get ts j i t ht hi
      cases hv : (tcells t)[i]? with
      | none => 
        have := List.getElem?_eq_none_iff.1 hv
        exact absurd this (by show ¬ 4 ≤ i; omega)
      | some u => rw [hv] at h1; rw [← e]; exact hcl _ _ h1
    rw [e]
    exact ⟨f 0 (by omega), f 1 (by omega), f 2 (by omega), f 3 (by omega)⟩
theorem toks_cell {w : World} {v : Value} {ts : List Tok} (h : Toks w v ts) (j : Nat) (hj : j < ts.length) : ∃ ad c, v = .slice (some ad) ts.length c ∧ ts.length ≤ c ∧
    w.cell? (ad.add (j * 4)) = some (.int .i64 (ts[j].k : Int)) ∧ w.cell? ⟨(ad.add (j * 4)).block, (ad.add (j * 4)).off + 1, none⟩ = some (.string (ofL ts[j].t)) ∧
    w.cell? ⟨(ad.add (j * 4)).block, (ad.add (j * 4)).off + 2, none⟩ = some (.int .i64 (ts[j].v : Int)) ∧ w.cell? ⟨(ad.add (j * 4)).block, (ad.add (j * 4)).off + 3, none⟩ = some (.int .i64 (ts[j].p : Int)) := by
  rcases h with ⟨rfl, rfl⟩ | ⟨ad, c, rfl, hc, hcell⟩
  · simp at hj
  · exact ⟨ad, c, rfl, hc, hcell j ts[j] (List.getElem?_eq_getElem hj)⟩
theorem Frm.grownK {e B sz : Nat} {w w' : World} {v : Value} {n : Nat} {xs : List Value} (hown : w.ownsRow B e sz v n xs) (hg : w.grownBy w' v.ownBlock) : Frm e B w w' :=
  ⟨hg.os, hg.tape, hg.output, hg.size, fun k hk hn => hg.block k hk (by
    intro he
    rcases hown.2 with ⟨rfl, _⟩ | ⟨g, cap, cur, rfl, hb, hh, _⟩
    · simp [Value.ownBlock] at he
    · simp [Value.ownBlock] at he
      subst he
      rcases hn with hn | hn
      · omega
      · exact hn _ _ hh)⟩
/-- append(s, t) of one token: it lies in a new block first. -/
theorem app4 {P : Program} {w : World} {ops : Array Oper} {rest : List Oper} {o : Oper} {a : Act} {Q : Exit → Act → World → Prop} (hgd : o.guard = none) (s x : Operand) (t : TypeId)
    (ho : o.op = .call { callee := .builtin .append, args := #[s, x], argTypes := #[t, t] })
    (e : TypeId) (z : Value) (by_ : Nat) (hinfo : (P.info? e).map (fun i => (i.zero, i.size, i.bytes)) = some (some z, 4, by_)) (ht : P.underlying t = some (.slice e)) (hzs : z.cells.size = 4)
    (B : Nat) (v : Value) (n : Nat) (xs : List Value) (hs : a.eval s = v) (hown : w.ownsRow B e 4 v n xs) (c0 c1 c2 c3 : Value) (hx : a.eval x = .slice (some ⟨w.heap.size, 0, none⟩) 1 1) (h1 : ∀ u ∈ [c0, c1, c2, c3], u.oneCell' = true)
    (hr : (n + 1) * by_ ≤ 140737488355328) (hm : n + 1 ≤ 140737488355328) (hB : B ≤ w.heap.size)
    (h : ∀ v' w', w'.ownsRow B e 4 v' (n + 1) (xs ++ [c0, c1, c2, c3]) → Frm e B w w' → wpList P ops Q rest (a.put o.dst v') w') : wpList P ops Q (o :: rest) a (w.alloc (.cells #[c0, c1, c2, c3] e)) := by
  obtain ⟨i0, hi, hz0, hz1, hz2⟩ := info_parts hinfo
  refine wpList_append_own _ hgd s x t ho B e i0 z 4 by_ ht hi hz0 hz1 hz2 hzs (by decide) v n xs hs (hown.alloc _) ⟨w.heap.size, 0, none⟩ 1 1 [c0, c1, c2, c3] hx rfl ?_ h1 ?_ hr ?_ ?_
  · intro j u hj
    have e : (⟨w.heap.size, 0, none⟩ : Addr).add j = ⟨w.heap.size, j, none⟩ := by unfold Addr.add; split <;> simp_all
    rw [e, cell_of_row _ w.heap.size j _ _ _ (heap_alloc_new w _), ← Array.getElem?_toList]
    exact hj
  · unfold maxLen; omega
  · simp; omega
  · intro v' w' hown' hg _
    exact h v' w' hown' ((Frm.alloc_ w _).trans (Frm.grownK (hown.alloc _) hg))
theorem own_keepK {w w' : World} {B e sz : Nat} {v : Value} {n : Nat} {xs : List Value} (h : w.ownsRow B e sz v n xs) (hk : ∀ a, a < w.heap.size → B ≤ a → w'.heap[a]? = w.heap[a]?) : w'.ownsRow B e sz v n xs := by
  refine ⟨h.1, ?_⟩
  rcases h.2 with h2 | ⟨a, cap, cur, hv, hb, hh, hr⟩
  · exact .inl h2
  · exact .inr ⟨a, cap, cur, hv, hb, (hk a (lt_of_some hh) hb).trans hh, hr⟩
theorem TBox.set1 {w : World} {b kd v p : Nat} {t : List UInt8} (h : TBox w b kd t v p) (t' : List UInt8) : TBox (w.setCell ⟨b, 1, none⟩ (.string (ofL t'))) b kd t' v p := by
  unfold TBox at h ⊢
  rw [heap_set h]; rfl
theorem TBox.set3 {w : World} {b kd v p : Nat} {t : List UInt8} (h : TBox w b kd t v p) (p' : Nat) : TBox (w.setCell ⟨b, 3, none⟩ (.int .i64 (p' : Int))) b kd t v p' := by
  unfold TBox at h ⊢
  rw [heap_set h]; rfl
theorem TBox.below {w w' : World} {b kd v p : Nat} {t : List UInt8} (h : TBox w b kd t v p) (hb : Below w.heap.size w w') : TBox w' b kd t v p := (hb.block b (lt_of_some h)).trans h
theorem TBox.made (w : World) (kd v p : Nat) (t : List UInt8) : TBox (w.alloc (.cells #[.int .i64 (kd : Int), .string (ofL t), .int .i64 (v : Int), .int .i64 (p : Int)] 35)) w.heap.size kd t v p := heap_alloc_new w _
theorem txt_tl : ∀ (l : List UInt8) (t : List UInt8) (n : Nat), txt l = some (t, n) → t.length + 1 ≤ n
  | [], t, n, h => by simp [txt] at h
  | [c], t, n, h => by
    rw [txt_cons] at h
    split at h
    · simp only [Option.some.injEq, Prod.mk.injEq] at h; obtain ⟨rfl, rfl⟩ := h; simp
    · split at h
      · simp at h
      · split at h <;> simp [txt] at h
  | c :: d :: r, t, n, h => by
    rw [txt_cons] at h
    split at h
    · simp only [Option.some.injEq, Prod.mk.injEq] at h; obtain ⟨rfl, rfl⟩ := h; simp
    · split at h
      · simp only at h
        split at h
        · cases hr : txt r with
          | none => simp [hr] at h
          | some x =>
            have := txt_tl r x.1 x.2 hr
            simp only [hr, Option.map_some, Option.some.injEq, Prod.mk.injEq] at h
            obtain ⟨rfl, rfl⟩ := h
            simp; omega
        · simp at h
      · split at h
        · cases hr : txt (d :: r) with
          | none => simp [hr] at h
          | some x =>
            have := txt_tl (d :: r) x.1 x.2 hr
            simp only [hr, Option.map_some, Option.some.injEq, Prod.mk.injEq] at h
            obtain ⟨rfl, rfl⟩ := h
            simp; omega
        · simp at h
theorem tk_tl {l : List UInt8} {k v m : Nat} {t : List UInt8} (h : tk l = .ok k t v m) : t.length ≤ m := by
  unfold tk at h
  split at h
  · unfold tkName at h
    split at h
    · cases h
    · simp only [Tk.ok.injEq] at h
      obtain ⟨_, rfl, _, rfl⟩ := h
      rw [List.length_take]; omega
  · split at h
    · unfold tkNum at h
      split at h
      · cases h
      · split at h
        · cases h
        · simp only [Tk.ok.injEq] at h
          obtain ⟨_, rfl, _, rfl⟩ := h
          simp
    · split at h
      · unfold tkText at h
        cases ht : txt l.tail with
        | none => rw [ht] at h; cases h
        | some x =>
          simp only [ht] at h
          split at h
          · cases h
          · simp only [Tk.ok.injEq] at h
            obtain ⟨_, rfl, _, rfl⟩ := h
            have := txt_tl _ x.1 x.2 ht
            omega
      · unfold tkMark at h
        split at h
        · simp only [Tk.ok.injEq] at h
          obtain ⟨_, rfl, _, rfl⟩ := h
          rw [List.length_take]; omega
        · split at h
          · simp only [Tk.ok.injEq] at h
            obtain ⟨_, rfl, _, rfl⟩ := h
            rw [List.length_take]; omega
          · cases h
theorem tk_errn {l : List UInt8} {x : Nat} (h : tk l = .err x) : x ≠ 0 := by
  unfold tk tkName tkNum tkText tkMark at h
  repeat' split at h
  all_goals (first | (cases h; done) | (simp only [Tk.err.injEq] at h; omega))
theorem info_tok : (Try.prog.info? 35).map (fun i => (i.zero, i.size, i.bytes)) = some (some (.agg #[.int .i64 0, .string { data := #[] }, .int .i64 0, .int .i64 0]), 4, 40) := by kernel_rfl
end Go.Proofs.Ytolanmdckdjfeaa
