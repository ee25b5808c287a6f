/- region_inv for a region that appends one number to a row of the call's own and assigns it: 'out = append(out, f(..))'. -/
import Derived.Test.YteoddcamicmapaaRegInv
import Derived.Test.YteoddcamicmapaaSl
import Derived.Deep.AppendLies
namespace Go.Proofs.Yteoddcamicmapaa
open Go.RowKit

def IRow (w : World) (B : Nat) (v : Value) (xs : List Int) : Prop := w.ownsRow B 3 1 v xs.length (xs.map iv)
theorem IRow.below {w w' : World} {B : Nat} {v : Value} {xs : List Int} (h : IRow w B v xs) (hb : Below w.heap.size w w') : IRow w' B v xs :=
  World.ownsRow.kept (row := none) h ⟨hb.os, hb.tape, hb.output, hb.size, fun k hk _ => hb.block k hk⟩ (by cases v.ownBlock <;> simp)
structure NstI (n0 : Nat) (w w' : World) : Prop where
  size : w.heap.size ≤ w'.heap.size
  block : ∀ g, n0 ≤ g → g < w.heap.size → w'.heap[g]? = w.heap[g]?
theorem NstI.below {n0 : Nat} {w w' : World} (h : Below w.heap.size w w') : NstI n0 w w' := ⟨h.size, fun g _ hg => h.block g hg⟩
def NewI (n0 : Nat) (c : Int) (v : Value) (w : World) : Prop := ∃ g, v = .slice (some ⟨g, 0, none⟩) 1 1 ∧ n0 ≤ g ∧ w.heap[g]? = some (.cells #[.int .i64 c] 3 (0, 0))
theorem NewI.stay {n0 : Nat} {c : Int} {v : Value} {w w' : World} (h : NewI n0 c v w) (hr : NstI n0 w w') : NewI n0 c v w' := by
  obtain ⟨g, h1, h2, h3⟩ := h
  exact ⟨g, h1, h2, (hr.block g h2 (lt_of_some h3)).trans h3⟩
def SlV (b : Bool) (v u : Value) : Value := if b then u else v
def SlI (b : Bool) (xs : List Int) (c : Int) : List Int := if b then xs ++ [c] else xs
/-- The words: a plain value each, but the new block (b) and what the row is (j: the append, jj: the assignment). -/
def RowPh (val : Nat → Value) (b j jj n0 : Nat) (c : Int) (i : Nat) (v : Value) (w : World) : Prop := if i = b then NewI n0 c v w else if i = j ∨ i = jj then True else v = val i
def RowS (w0 : World) (B j jj : Nat) (u : Value) (xs : List Int) (c : Int) (n0 : Nat) (L : Nat → Bool) (vs : Nat → Value) (w : World) : Prop :=
  IRow w B (SlV (L j) u (vs j)) (SlI (L j) xs c) ∧ Below B w0 w ∧ B ≤ w.heap.size ∧ n0 ≤ w.heap.size ∧ (L jj = true → vs jj = vs j)
def RowInv (val : Nat → Value) (w0 : World) (B b j jj : Nat) (u : Value) (xs : List Int) (c : Int) (n0 : Nat) (L : Nat → Bool) (vs : Nat → Value) (w : World) : Prop :=
  (∀ i, L i = true → RowPh val b j jj n0 c i (vs i) w) ∧ RowS w0 B j jj u xs c n0 L vs w
section
variable {val : Nat → Value} {w0 w w' : World} {B b j jj : Nat} {u : Value} {xs : List Int} {c : Int} {n0 : Nat} {L : Nat → Bool} {vs : Nat → Value}
theorem RowPh.stay {i : Nat} {v : Value} (h : RowPh val b j jj n0 c i v w) (hr : NstI n0 w w') : RowPh val b j jj n0 c i v w' := by
  unfold RowPh at h ⊢
  by_cases e : i = b
  · rw [if_pos e] at h ⊢; exact h.stay hr
  · rw [if_neg e] at h ⊢; exact h
theorem RowInv.start (h : IRow w B u xs) (hb : Below B w0 w) (hs : B ≤ w.heap.size) : RowInv val w0 B b j jj u xs c w.heap.size (fun _ => false) vs w.drew :=
  ⟨(fun i h => by cases h), World.ownsRow.drew h, ⟨hb.os, hb.tape, hb.output, hb.size, hb.block⟩, hs, Nat.le_refl _, (fun h => by cases h)⟩
theorem RowInv.at_ (h : RowInv val w0 B b j jj u xs c n0 L vs w) {i : Nat} (hl : L i = true) (h1 : i ≠ b) (h2 : i ≠ j) (h3 : i ≠ jj) : vs i = val i := by
  have := h.1 i hl
  unfold RowPh at this
  rwa [if_neg h1, if_neg (by rintro (h | h); exact h2 h; exact h3 h)] at this
theorem RowInv.words (h : RowInv val w0 B b j jj u xs c n0 L vs w) (hr : NstI n0 w w') {i : Nat} {v : Value} (hp : RowPh val b j jj n0 c i v w') (hs : RowS w0 B j jj u xs c n0 (updB L i) (updV vs i v) w') : RowInv val w0 B b j jj u xs c n0 (updB L i) (updV vs i v) w' := by
  refine ⟨fun k hk => ?_, hs⟩
  by_cases e : k = i
  · subst e
    rw [updV_self]; exact hp
  · rw [updB_ne _ e] at hk
    rw [updV_ne _ _ e]
    exact (h.1 k hk).stay hr
theorem RowS.quiet {i : Nat} {v : Value} (h : RowS w0 B j jj u xs c n0 L vs w) (h1 : j ≠ i) (h2 : jj ≠ i) : RowS w0 B j jj u xs c n0 (updB L i) (updV vs i v) w := by
  unfold RowS at h ⊢
  rw [updB_ne L h1, updB_ne L h2, updV_ne vs v h1, updV_ne vs v h2]
  exact h
theorem RowS.ext (h : RowS w0 B j jj u xs c n0 L vs w) (hb : Below w.heap.size w w') : RowS w0 B j jj u xs c n0 L vs w' :=
  ⟨h.1.below hb, h.2.1.trans (hb.mono h.2.2.1), Nat.le_trans h.2.2.1 hb.size, Nat.le_trans h.2.2.2.1 hb.size, h.2.2.2.2⟩
/-- A quiet operation. -/
theorem RowInv.quiet {i : Nat} (h : RowInv val w0 B b j jj u xs c n0 L vs w) (h1 : i ≠ b) (h2 : j ≠ i) (h3 : jj ≠ i) : RowInv val w0 B b j jj u xs c n0 (updB L i) (updV vs i (val i)) w :=
  h.words ⟨Nat.le_refl _, fun _ _ _ => rfl⟩ (by unfold RowPh; rw [if_neg h1, if_neg (by rintro (h | h); exact h2 h.symm; exact h3 h.symm)]) (h.2.quiet h2 h3)
/-- The new block. -/
theorem RowInv.block (h : RowInv val w0 B b j jj u xs c n0 L vs w) (h2 : j ≠ b) (h3 : jj ≠ b) : RowInv val w0 B b j jj u xs c n0 (updB L b) (updV vs b (.slice (some ⟨w.heap.size, 0, none⟩) 1 1)) (w.alloc (.cells #[.int .i64 c] 3)) := by
  have hb : Below w.heap.size w (w.alloc (.cells #[.int .i64 c] 3)) := (Below.refl _ w).alloc (Nat.le_refl _) _
  refine h.words (NstI.below hb) ?_ ((h.2.ext hb).quiet h2 h3)
  unfold RowPh
  rw [if_pos rfl]
  exact ⟨_, rfl, h.2.2.2.2.1, heap_alloc_new w _⟩
/-- The assignment. -/
theorem RowInv.fill (h : RowInv val w0 B b j jj u xs c n0 L vs w) (hne : j ≠ jj) (hb : jj ≠ b) : RowInv val w0 B b j jj u xs c n0 (updB L jj) (updV vs jj (vs j)) w := by
  refine h.words ⟨Nat.le_refl _, fun _ _ _ => rfl⟩ (by unfold RowPh; rw [if_neg hb, if_pos (.inr rfl)]; trivial) ?_
  obtain ⟨h1, h2, h3, h4, h5⟩ := h.2
  unfold RowS
  rw [updB_ne L hne, updV_ne vs _ hne, updV_self]
  exact ⟨h1, h2, h3, h4, fun _ => rfl⟩
theorem RowInv.all (h : RowInv val w0 B b j jj u xs c n0 L vs w) (h1 : L j = true) (h2 : L jj = true) : IRow w B (vs jj) (xs ++ [c]) ∧ Below B w0 w ∧ B ≤ w.heap.size := by
  obtain ⟨h3, h4, h5, _, h6⟩ := h.2
  rw [h1] at h3
  rw [h6 h2]
  exact ⟨h3, h4, h5⟩
end
/-- The append. -/
theorem stepI_app {P : Program} {ops : Array Oper} {Q : Exit → Act → World → Prop} {val : Nat → Value} {w0 w : World} {B b j jj : Nat} {u : Value} {xs : List Int} {c : Int} {n0 : Nat} {L : Nat → Bool} {vs : Nat → Value} {o : Oper} {a0 a : Act} {s x : Nat} {t : TypeId}
    (hu : P.underlying t = some (.slice 3)) (hinfo : (P.info? 3).map (fun i => (i.zero, i.size, i.bytes)) = some (some (.int .i64 0), 1, 8)) (h : RowInv val w0 B b j jj u xs c n0 L vs w) (hg : o.guard = none)
    (ho : o.op = .call { callee := .builtin .append, args := #[.tmp s, .tmp x], argTypes := #[t, t] }) (hs : a.tmps[s]?.getD undef = u) (hb : RegB ops L vs a0 a) (hlb : L b = true) (hbx : (ops[b]?).bind (·.dst) = some x) (hlj : L j = false) (hljj : L jj = false) (hne : j ≠ jj) (hbj : j ≠ b)
    (hw0 : ∀ k, u.ownBlock = some k → k < n0) (hl : xs.length + 1 ≤ 1000000000) : StepI P ops Q (RowInv val w0 B b j jj u xs c n0) L vs j o a w := by
  obtain ⟨i0, hi, hz0, hz1, hz2⟩ := info_parts hinfo
  have hn := h.1 b hlb
  unfold RowPh at hn
  rw [if_pos rfl] at hn
  obtain ⟨g, hg1, hg2, hg3⟩ := hn
  have bx : a.tmps[x]?.getD undef = .slice (some ⟨g, 0, none⟩) 1 1 := (hb.val b hlb x hbx).trans hg1
  obtain ⟨h1, h2, h3, h4, h5⟩ := h.2
  rw [hlj] at h1
  have h1 : w.ownsRow B 3 1 u xs.length (xs.map iv) := h1
  refine stepI_on (by simp [Region.wanted, hg]) (wp_append_lies w (.tmp s) (.tmp x) t ho B 3 i0 _ 1 8 hu hi hz0 hz1 hz2 rfl (by omega) u xs.length (xs.map iv) (by simp [Act.eval, hs]) h1 ⟨g, 0, none⟩ 1 1 [.int .i64 c] (by simp [Act.eval, bx]) rfl ?_ (by simp [Value.oneCell']) (by omega) (by unfold maxLen; omega) (by omega) h3 w.heap.size rfl ?_)
  · intro k v hk
    match k, hk with
    | 0, hk =>
      cases hk
      rw [show (⟨g, 0, none⟩ : Addr).add 0 = ⟨g, 0, none⟩ from rfl, cell_of_row w g 0 _ _ _ hg3]; rfl
    | k + 1, hk => simp at hk
  · intro g2 cap w3 hown hgr hg2' hlt
    refine ⟨_, rfl, h.words ⟨hgr.size, fun q h6 h7 => hgr.block q h7 fun e => by have := hw0 q e.symm; omega⟩ (by unfold RowPh; rw [if_neg hbj, if_pos (.inl rfl)]; trivial) ?_⟩
    unfold RowS
    rw [updB_self, updV_self, updB_ne L hne.symm]
    refine ⟨?_, h2.grown hgr h3 (fun k e => (World.ownsRow.lt h1 k e).1), Nat.le_trans h3 hgr.size, Nat.le_trans h4 hgr.size, fun e => absurd (hljj.symm.trans e) (by decide)⟩
    unfold IRow SlV SlI
    rw [if_pos rfl, if_pos rfl, List.length_append, List.map_append]
    exact hown
end Go.Proofs.Yteoddcamicmapaa
