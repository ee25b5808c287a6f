/- OrderFewer: the region that builds the order with one more edge: what holds between its operations. -/
import Derived.Test.YtcekfgahhicdcaaOrdRdc
import Derived.Test.YtcekfgahhicdcaaRegInv
import Derived.Deep.AppendLies
namespace Go.Proofs.Ytcekfgahhicdcaa
open Go.RowKit

theorem st_build (w : World) {B : Nat} (hB : B ≤ w.heap.size) : (w.alloc (.cells #[] 50)).ownsRow B 50 2 (.slice (some ⟨w.heap.size, 0, none⟩) 0 0) 0 [] :=
  ⟨rfl, .inr ⟨w.heap.size, 0, #[], rfl, hB, heap_alloc_new w _, Nat.le_refl _, by unfold maxLen; omega, rfl, rfl⟩⟩
theorem own_alloc2 {w : World} {B e n : Nat} {v : Value} {xs : List Value} (h : w.ownsRow B e 2 v n xs) (o : Obj) : (w.alloc o).ownsRow B e 2 v n xs := own_keepG h fun g _ hg => Below.heap_alloc w o g hg
theorem own_setOther {w : World} {B e n g t : Nat} {v u : Value} {xs : List Value} {i : Nat} {cs : Array Value} (h : w.ownsRow B e 2 v n xs) (hg : w.heap[g]? = some (.cells cs t (0, 0))) (ht : t ≠ e) : (w.setCell ⟨g, i, none⟩ u).ownsRow B e 2 v n xs := by
  refine ⟨h.1, ?_⟩
  rcases h.2 with hn | ⟨g', cap, cur, hv, hb, hg', rest⟩
  · exact .inl hn
  · refine .inr ⟨g', cap, cur, hv, hb, (Below.heap_setCell w ⟨g, i, none⟩ u g' ?_).trans hg', rest⟩
    intro he
    have he : g = g' := by first | exact he | exact he.symm
    subst he
    rw [hg] at hg'
    simp only [Option.some.injEq, Obj.cells.injEq] at hg'
    exact ht hg'.2.1
theorem pcells_idx : ∀ (l : List (Int × Int)) (j : Nat) (u : Value), (l.flatMap pcells)[j]? = some u → ∃ k p, l[k]? = some p ∧ ((j = k * 2 ∧ u = .int .i64 p.1) ∨ (j = k * 2 + 1 ∧ u = .int .i64 p.2))
  | [], j, u, h => by simp at h
  | x :: t, 0, u, h => ⟨0, x, rfl, .inl ⟨rfl, by simpa [pcells] using h.symm⟩⟩
  | x :: t, 1, u, h => ⟨0, x, rfl, .inr ⟨rfl, by simpa [pcells] using h.symm⟩⟩
  | x :: t, j + 2, u, h => by
    obtain ⟨k, p, h1, h2⟩ := pcells_idx t j u (by simpa [pcells] using h)
    refine ⟨k + 1, p, by simpa using h1, ?_⟩
    rcases h2 with ⟨h3, h4⟩ | ⟨h3, h4⟩
    · exact .inl ⟨by omega, h4⟩
    · exact .inr ⟨by omega, h4⟩
theorem add_add (ad : Addr) (a b : Nat) : (ad.add a).add b = ad.add (a + b) := by
  unfold Addr.add
  by_cases ha : a = 0
  · subst ha; simp
  · by_cases hb : b = 0
    · subst hb; simp [ha]
    · rw [if_neg ha, if_neg hb, if_neg (by omega)]; simp [Nat.add_assoc]
theorem add_one (ad : Addr) (a : Nat) : ad.add (a + 1) = ⟨(ad.add a).block, (ad.add a).off + 1, none⟩ := by
  unfold Addr.add
  by_cases ha : a = 0
  · subst ha; simp
  · rw [if_neg ha, if_neg (by omega)]; simp [Nat.add_assoc]
theorem news_at {w : World} {ad : Addr} {c : Nat} {L : List (Int × Int)} (h : Prs w (.slice (some ad) L.length c) L) {k : Nat} {p : Int × Int} (hk : L[k]? = some p) : w.cell? (ad.add (k * 2)) = some (.int .i64 p.1) ∧ w.cell? (ad.add (k * 2 + 1)) = some (.int .i64 p.2) := by
  rcases h with ⟨h, _⟩ | ⟨ad', c', h, _, h3⟩
  · cases h
  · simp only [Value.slice.injEq, Option.some.injEq] at h
    obtain ⟨rfl, _, rfl⟩ := h
    rw [add_one]
    exact h3 k p hk
theorem pcells_len (L : List (Int × Int)) : (L.flatMap pcells).length = L.length * 2 := by
  induction L with
  | nil => rfl
  | cons x t ih => rw [List.flatMap_cons, List.length_append, ih]; simp [pcells]; omega
theorem pcells_one (L : List (Int × Int)) : ∀ u ∈ L.flatMap pcells, u.oneCell' = true := by
  intro u hu
  obtain ⟨x, _, hx⟩ := List.mem_flatMap.1 hu
  simp only [pcells, List.mem_cons, List.not_mem_nil, or_false] at hx
  rcases hx with rfl | rfl <;> rfl
theorem news_all {w : World} {ad : Addr} {c : Nat} {L : List (Int × Int)} (h : Prs w (.slice (some ad) L.length c) L) : ∀ j u, (L.flatMap pcells)[j]? = some u → w.cell? (ad.add j) = some u := by
  intro j u hj
  obtain ⟨k, p, h1, h2⟩ := pcells_idx _ _ _ hj
  obtain ⟨h3, h4⟩ := news_at h h1
  rcases h2 with ⟨rfl, rfl⟩ | ⟨rfl, rfl⟩
  · exact h3
  · exact h4
theorem wp_append_prs {w : World} {o : Oper} {a : Act} {K : Act → World → Prop} {Q : Exit → Act → World → Prop} (s x : Operand)
    (ho : o.op = .call { callee := .builtin .append, args := #[s, x], argTypes := #[22, 22] })
    (base : Nat) (v : Value) (hs : a.eval s = v) (hown : w.ownsRow base 50 2 v 0 [])
    (u : Value) (L : List (Int × Int)) (hx : a.eval x = u) (hL : Prs w u L) (hl : L.length ≤ 1000) (hbase : base ≤ w.heap.size)
    (h : ∀ v' w', w'.ownsRow base 50 2 v' L.length (L.flatMap pcells) → w.grownBy w' v.ownBlock → K (a.put o.dst v') w') :
    Oper.wp Try.prog o a w K Q := by
  obtain ⟨i0, hi, hz0, hz1, hz2⟩ := info_parts info_pair
  rcases hL with ⟨rfl, rfl⟩ | ⟨ad, c, rfl, hc, hcell⟩
  · have hrun := run_append_owned_none (P := Try.prog) (w := w) base 22 o.type 50 i0 2 (by kernel_rfl) hi v 0 [] hown
    unfold Oper.wp
    simp [execOp, ho, resolve, invoke, builtin, hs, hx, hrun, Result.andThen]
    exact h v w hown ⟨rfl, rfl, rfl, Nat.le_refl _, fun _ _ _ => rfl⟩
  · refine wp_append_own w s x 22 ho base 50 i0 _ 2 16 (by kernel_rfl) hi hz0 hz1 hz2 rfl (by omega) v 0 [] hs hown ad L.length c (L.flatMap pcells) hx (pcells_len L) (news_all (.inr ⟨ad, c, rfl, hc, hcell⟩)) (pcells_one L) (by unfold maxLen; omega) (by omega) hbase ?_
    intro v' w' h1 h2 _
    rw [Nat.zero_add, List.nil_append] at h1
    exact h v' w' h1 h2
theorem nopeB {b : Bool} {α : Prop} (h : b = false) (k : b = true) : α := by rw [h] at k; cases k
theorem nopeT {α : Prop} (h : true = false) : α := by cases h
def R2 (B : Nat) (v : Value) (w : World) : Prop := ∃ g, v = .slice (some ⟨g, 0, none⟩) 0 0 ∧ B ≤ g ∧ w.heap[g]? = some (.cells #[] 50 (0, 0))
def E7 (x y : Int) (v : Value) (w : World) : Prop := ∃ g, v = .slice (some ⟨g, 0, none⟩) 1 1 ∧ w.heap[g]? = some (.cells #[.int .i64 x, .int .i64 y] 50 (0, 0))
def B10 (B : Nat) (v : Value) (w : World) : Prop := ∃ h, v = .pointer (some ⟨h, 0, none⟩) ∧ B ≤ h ∧ w.heap[h]? = some (.cells #[.int .i64 0, .slice none 0 0] 27 (0, 0))
theorem R2.own {B : Nat} {v : Value} {w : World} (h : R2 B v w) : w.ownsRow B 50 2 v 0 [] := by
  obtain ⟨g, rfl, hB, hg⟩ := h
  exact ⟨rfl, .inr ⟨g, 0, #[], rfl, hB, hg, Nat.le_refl _, by unfold maxLen; omega, rfl, rfl⟩⟩
theorem R2.below {B : Nat} {v : Value} {w w' : World} (h : R2 B v w) (hb : Below w.heap.size w w') : R2 B v w' := by
  obtain ⟨g, rfl, hB, hg⟩ := h
  exact ⟨g, rfl, hB, (hb.block _ (lt_of_some hg)).trans hg⟩
theorem E7.below {x y : Int} {v : Value} {w w' : World} (h : E7 x y v w) (hb : Below w.heap.size w w') : E7 x y v w' := by
  obtain ⟨g, rfl, hg⟩ := h
  exact ⟨g, rfl, (hb.block _ (lt_of_some hg)).trans hg⟩
theorem E7.grown {B : Nat} {x y : Int} {v u : Value} {w w' : World} (h : E7 x y v w) (hr : R2 B u w) (hg : w.grownBy w' u.ownBlock) : E7 x y v w' := by
  obtain ⟨g, rfl, h1⟩ := h
  obtain ⟨g', rfl, _, h2⟩ := hr
  refine ⟨g, rfl, (hg.block g (lt_of_some h1) ?_).trans h1⟩
  intro he
  have he : g = g' := by simpa [Value.ownBlock] using he
  subst he
  rw [h1] at h2
  simp at h2
theorem E7.news {x y : Int} {v : Value} {w : World} (h : E7 x y v w) : ∃ g, v = .slice (some ⟨g, 0, none⟩) 1 1 ∧ ∀ (j : Nat) u, [Value.int .i64 x, .int .i64 y][j]? = some u → w.cell? ((⟨g, 0, none⟩ : Addr).add j) = some u := by
  obtain ⟨g, rfl, hg⟩ := h
  exact ⟨g, rfl, World.news_of_block (cs := #[.int .i64 x, .int .i64 y]) hg⟩
theorem B10.below {B : Nat} {v : Value} {w w' : World} (h : B10 B v w) (hb : Below w.heap.size w w') : B10 B v w' := by
  obtain ⟨g, rfl, hB, hg⟩ := h
  exact ⟨g, rfl, hB, (hb.block _ (lt_of_some hg)).trans hg⟩
theorem B10.frm {B C : Nat} {v : Value} {w w' : World} (h : B10 B v w) (hf : Frm 50 C w w') : B10 B v w' := by
  obtain ⟨g, rfl, hB, hg⟩ := h
  exact ⟨g, rfl, hB, hf.keeps hg (by decide)⟩
/-- What holds between the operations: L: what is done, vs: what each has left. -/
structure FwI (w5 : World) (n : Int) (sA : Value) (b0 : Nat) (es : List (Int × Int)) (x y : Int) (L : Nat → Bool) (vs : Nat → Value) (w : World) : Prop where
  bel : Below w5.heap.size w5 w
  p0 : L 0 = true → vs 0 = .pointer (some ⟨b0, 0, none⟩)
  p1 : L 1 = true → vs 1 = .int .i64 n
  p3 : L 3 = true → vs 3 = .pointer (some ⟨b0, 1, none⟩)
  p4 : L 4 = true → vs 4 = sA
  p6 : L 6 = true → vs 6 = .agg #[.int .i64 x, .int .i64 y]
  p9 : L 9 = true → vs 9 = .agg #[.int .i64 n, vs 8]
  r2 : L 2 = true → L 5 = false → R2 w5.heap.size (vs 2) w
  r5 : L 5 = true → L 8 = false → w.ownsRow w5.heap.size 50 2 (vs 5) es.length (es.flatMap pcells)
  r8 : L 8 = true → w.ownsRow w5.heap.size 50 2 (vs 8) (es.length + 1) (es.flatMap pcells ++ [.int .i64 x, .int .i64 y])
  e7 : L 7 = true → L 8 = false → E7 x y (vs 7) w
  b10 : L 10 = true → L 11 = false → B10 w5.heap.size (vs 10) w
  b11 : L 11 = true → ∃ h, vs 10 = .pointer (some ⟨h, 0, none⟩) ∧ w.heap[h]? = some (.cells #[.int .i64 n, vs 8] 27 (0, 0))
section
variable {w5 w : World} {n x y : Int} {sA : Value} {b0 : Nat} {es : List (Int × Int)} {L : Nat → Bool} {vs : Nat → Value}
theorem FwI.start (h : Below w5.heap.size w5 w) : FwI w5 n sA b0 es x y (fun _ => false) vs w :=
  ⟨h, nopeB rfl, nopeB rfl, nopeB rfl, nopeB rfl, nopeB rfl, nopeB rfl, nopeB rfl, nopeB rfl, nopeB rfl, nopeB rfl, nopeB rfl, nopeB rfl⟩
theorem FwI.s0 (hI : FwI w5 n sA b0 es x y L vs w) : FwI w5 n sA b0 es x y (updB L 0) (updV vs 0 (.pointer (some ⟨b0, 0, none⟩))) w :=
  ⟨hI.bel, fun _ => rfl, hI.p1, hI.p3, hI.p4, hI.p6, hI.p9, hI.r2, hI.r5, hI.r8, hI.e7, hI.b10, hI.b11⟩
theorem FwI.s1 (hI : FwI w5 n sA b0 es x y L vs w) : FwI w5 n sA b0 es x y (updB L 1) (updV vs 1 (.int .i64 n)) w :=
  ⟨hI.bel, hI.p0, fun _ => rfl, hI.p3, hI.p4, hI.p6, hI.p9, hI.r2, hI.r5, hI.r8, hI.e7, hI.b10, hI.b11⟩
theorem FwI.s3 (hI : FwI w5 n sA b0 es x y L vs w) : FwI w5 n sA b0 es x y (updB L 3) (updV vs 3 (.pointer (some ⟨b0, 1, none⟩))) w :=
  ⟨hI.bel, hI.p0, hI.p1, fun _ => rfl, hI.p4, hI.p6, hI.p9, hI.r2, hI.r5, hI.r8, hI.e7, hI.b10, hI.b11⟩
theorem FwI.s4 (hI : FwI w5 n sA b0 es x y L vs w) : FwI w5 n sA b0 es x y (updB L 4) (updV vs 4 (sA)) w :=
  ⟨hI.bel, hI.p0, hI.p1, hI.p3, fun _ => rfl, hI.p6, hI.p9, hI.r2, hI.r5, hI.r8, hI.e7, hI.b10, hI.b11⟩
theorem FwI.s6 (hI : FwI w5 n sA b0 es x y L vs w) : FwI w5 n sA b0 es x y (updB L 6) (updV vs 6 (.agg #[.int .i64 x, .int .i64 y])) w :=
  ⟨hI.bel, hI.p0, hI.p1, hI.p3, hI.p4, fun _ => rfl, hI.p9, hI.r2, hI.r5, hI.r8, hI.e7, hI.b10, hI.b11⟩
theorem FwI.s9 (hI : FwI w5 n sA b0 es x y L vs w) : FwI w5 n sA b0 es x y (updB L 9) (updV vs 9 (.agg #[.int .i64 n, vs 8])) w :=
  ⟨hI.bel, hI.p0, hI.p1, hI.p3, hI.p4, hI.p6, fun _ => rfl, hI.r2, hI.r5, hI.r8, hI.e7, hI.b10, hI.b11⟩
theorem FwI.s2 (hI : FwI w5 n sA b0 es x y L vs w) (h5 : L 5 = false) (h8 : L 8 = false) (h11 : L 11 = false) : FwI w5 n sA b0 es x y (updB L 2) (updV vs 2 (.slice (some ⟨w.heap.size, 0, none⟩) 0 0)) (w.alloc (.cells #[] 50)) :=
  ⟨hI.bel.alloc hI.bel.size _, hI.p0, hI.p1, hI.p3, hI.p4, hI.p6, hI.p9, fun _ _ => ⟨_, rfl, hI.bel.size, heap_alloc_new w _⟩, fun h => nopeB h5 h, fun h => nopeB h8 h, fun h k => (hI.e7 h k).below (below_alloc w _), fun h k => (hI.b10 h k).below (below_alloc w _), fun h => nopeB h11 h⟩
theorem FwI.s7 (hI : FwI w5 n sA b0 es x y L vs w) (h8 : L 8 = false) (h11 : L 11 = false) : FwI w5 n sA b0 es x y (updB L 7) (updV vs 7 (.slice (some ⟨w.heap.size, 0, none⟩) 1 1)) (w.alloc (.cells #[.int .i64 x, .int .i64 y] 50)) :=
  ⟨hI.bel.alloc hI.bel.size _, hI.p0, hI.p1, hI.p3, hI.p4, hI.p6, hI.p9, fun h k => (hI.r2 h k).below (below_alloc w _), fun h k => own_alloc2 (hI.r5 h k) _, fun h => nopeB h8 h, fun _ _ => ⟨_, rfl, heap_alloc_new w _⟩, fun h k => (hI.b10 h k).below (below_alloc w _), fun h => nopeB h11 h⟩
theorem FwI.s10 (hI : FwI w5 n sA b0 es x y L vs w) (h11 : L 11 = false) : FwI w5 n sA b0 es x y (updB L 10) (updV vs 10 (.pointer (some ⟨w.heap.size, 0, none⟩))) (w.alloc (.cells #[.int .i64 0, .slice none 0 0] 27)) :=
  ⟨hI.bel.alloc hI.bel.size _, hI.p0, hI.p1, hI.p3, hI.p4, hI.p6, hI.p9, fun h k => (hI.r2 h k).below (below_alloc w _), fun h k => own_alloc2 (hI.r5 h k) _, fun h => own_alloc2 (hI.r8 h) _, fun h k => (hI.e7 h k).below (below_alloc w _), fun _ _ => ⟨_, rfl, hI.bel.size, heap_alloc_new w _⟩, fun h => nopeB h11 h⟩
theorem FwI.s5 (hI : FwI w5 n sA b0 es x y L vs w) {v' : Value} {w' : World} (h2 : L 2 = true) (h5 : L 5 = false) (h8 : L 8 = false) (h11 : L 11 = false) (ho : w'.ownsRow w5.heap.size 50 2 v' es.length (es.flatMap pcells)) (hg : w.grownBy w' (vs 2).ownBlock) : FwI w5 n sA b0 es x y (updB L 5) (updV vs 5 (v')) w' :=
  have hf : Frm 50 w5.heap.size w w' := Frm.grownG (hI.r2 h2 h5).own hg
  ⟨hI.bel.trans (hf.below hI.bel.size), hI.p0, hI.p1, hI.p3, hI.p4, hI.p6, hI.p9, fun _ h => nopeT h, fun _ _ => ho, fun h => nopeB h8 h, fun h k => (hI.e7 h k).grown (hI.r2 h2 h5) hg, fun h k => (hI.b10 h k).frm hf, fun h => nopeB h11 h⟩
theorem FwI.s8 (hI : FwI w5 n sA b0 es x y L vs w) {v' : Value} {w' : World} (h5 : L 5 = true) (h8 : L 8 = false) (h9 : L 9 = false) (h11 : L 11 = false) (ho : w'.ownsRow w5.heap.size 50 2 v' (es.length + 1) (es.flatMap pcells ++ [.int .i64 x, .int .i64 y])) (hg : w.grownBy w' (vs 5).ownBlock) : FwI w5 n sA b0 es x y (updB L 8) (updV vs 8 (v')) w' :=
  have hf : Frm 50 w5.heap.size w w' := Frm.grownG (hI.r5 h5 h8) hg
  ⟨hI.bel.trans (hf.below hI.bel.size), hI.p0, hI.p1, hI.p3, hI.p4, hI.p6, fun h => nopeB h9 h, fun _ h => nopeB h h5, fun _ h => nopeT h, fun _ => ho, fun _ h => nopeT h, fun h k => (hI.b10 h k).frm hf, fun h => nopeB h11 h⟩
theorem FwI.s11 (hI : FwI w5 n sA b0 es x y L vs w) {g : Nat} (h5 : L 5 = true) (h8 : L 8 = true) (hv : vs 10 = .pointer (some ⟨g, 0, none⟩)) (hB : w5.heap.size ≤ g) (hg : w.heap[g]? = some (.cells #[.int .i64 0, .slice none 0 0] 27 (0, 0))) : FwI w5 n sA b0 es x y (updB L 11) (updV vs 11 (undef)) ((w.setCell ⟨g, 0, none⟩ (.int .i64 n)).setCell ⟨g, 1, none⟩ (vs 8)) :=
  ⟨(hI.bel.setCell (p := ⟨g, 0, none⟩) hB _).setCell (p := ⟨g, 1, none⟩) hB _, hI.p0, hI.p1, hI.p3, hI.p4, hI.p6, hI.p9, fun _ h => nopeB h h5, fun _ h => nopeB h h8, fun h => own_setOther (own_setOther (hI.r8 h) hg (by decide)) (heap_setCell_same _ _ 0 _ _ _ hg) (by decide), fun _ h => nopeB h h8, fun _ h => nopeT h, fun _ => ⟨g, hv, heap_set_2 hg _ _⟩⟩
end
end Go.Proofs.Ytcekfgahhicdcaa
