/- Layer 13: 'x, e := f(..)' in any order: a call that makes a zone, a new variable, a store: what holds between the operations. -/
import Derived.Test.YteoddcamicmapaaZnAw
import Derived.Test.YteoddcamicmapaaRegE
namespace Go.Proofs.Yteoddcamicmapaa
open Go.RowKit

def fstV : Value → Value
  | .tuple cs => cs.getD 0 undef
  | v => v
def cellsV : Value → Array Value
  | .agg cs => cs
  | _ => #[]
def slcV (v : Value) : Value := (cellsV (fstV v)).getD 1 undef
structure LwI (wd : World) (T : TypeId) (val : Nat → Value) (k : Nat) (R : (Int × List Int) × Value) (L : Nat → Bool) (vs : Nat → Value) (w : World) : Prop where
  v : ∀ i, i < k → L i = true → vs i = val i
  c : L k = true → ∃ A c, vs k = .tuple #[.agg #[.int .i64 R.1.1, .slice A R.1.2.length c], R.2] ∧ Own w wd.heap.size (.slice A R.1.2.length c) R.1.2.length R.1.2
  m : L (k + 1) = true → L k = true ∧ vs (k + 1) = vs k
  e0 : L (k + 2) = true → L k = true ∧ vs (k + 2) = fstV (vs k)
  e1 : L (k + 3) = true → vs (k + 3) = R.2
  al : L (k + 4) = true → ∃ nb, vs (k + 4) = .pointer (some ⟨nb, 0, none⟩) ∧ wd.heap.size ≤ nb ∧ Bx w nb T (if L (k + 5) = true then cellsV (fstV (vs k)) else #[.int .i64 0, .slice none 0 0]) ∧ (L k = true → (slcV (vs k)).ownBlock ≠ some nb)
  ag : L (k + 6) = true → vs (k + 6) = R.2
  bel : Below wd.heap.size wd w
section
variable {wd w w' : World} {T : TypeId} {val : Nat → Value} {k : Nat} {R : (Int × List Int) × Value} {L : Nat → Bool} {vs : Nat → Value}
theorem LwI.start : LwI wd T val k R (fun _ => false) vs wd.drew := ⟨fun _ _ h => nopeB rfl h, nopeB rfl, nopeB rfl, nopeB rfl, nopeB rfl, nopeB rfl, nopeB rfl, (Below.refl _ _).drew⟩
theorem LwI.plain (h : LwI wd T val k R L vs w) (i : Nat) (hi : i < k) (hlk : L k = false) (hb : Below w.heap.size w w') : LwI wd T val k R (updB L i) (updV vs i (val i)) w' := by
  have u : ∀ j, i ≠ j → (updB L i) j = L j ∧ (updV vs i (val i)) j = vs j := fun j hj => ⟨updB_ne L (fun e => hj e.symm), updV_ne vs _ (fun e => hj e.symm)⟩
  refine ⟨fun j hj hl => ?_, fun hl => ?_, fun hl => ?_, fun hl => ?_, fun hl => ?_, fun hl => ?_, fun hl => ?_, h.bel.trans (hb.mono h.bel.size)⟩
  · by_cases e : j = i
    · subst e; exact updV_self ..
    · rw [(u j (fun e2 => e e2.symm)).1] at hl; rw [(u j (fun e2 => e e2.symm)).2]; exact h.v j hj hl
  · rw [(u k (by omega)).1, hlk] at hl; cases hl
  · rw [(u (k + 1) (by omega)).1] at hl; have := (h.m hl).1; rw [hlk] at this; cases this
  · rw [(u (k + 2) (by omega)).1] at hl; have := (h.e0 hl).1; rw [hlk] at this; cases this
  · rw [(u (k + 3) (by omega)).1] at hl; rw [(u (k + 3) (by omega)).2]; exact h.e1 hl
  · rw [(u (k + 4) (by omega)).1] at hl; rw [(u (k + 4) (by omega)).2, (u (k + 5) (by omega)).1, (u k (by omega)).1, (u k (by omega)).2]
    obtain ⟨nb, h1, h2, h3, h4⟩ := h.al hl
    exact ⟨nb, h1, h2, h3.below hb, h4⟩
  · rw [(u (k + 6) (by omega)).1] at hl; rw [(u (k + 6) (by omega)).2]; exact h.ag hl
theorem LwI.call (h : LwI wd T val k R L vs w) (hl1 : L (k + 1) = false) (hl2 : L (k + 2) = false) (hl5 : L (k + 5) = false) {e : Ending} (hz : ZP w R e w') : ∃ v, e = .returned v ∧ LwI wd T val k R (updB L k) (updV vs k v) w' := by
  obtain ⟨v, rfl, ho, hb⟩ := hz
  obtain ⟨A, c, rfl⟩ := own_shapeG ho
  have u : ∀ j, j ≠ k → (updB L k) j = L j ∧ (updV vs k (.tuple #[.agg #[.int .i64 R.1.1, .slice A R.1.2.length c], R.2])) j = vs j := fun j hj => ⟨updB_ne L hj, updV_ne vs _ hj⟩
  refine ⟨_, rfl, fun j hj hl => ?_, fun _ => ⟨A, c, updV_self .., Own.mono ho h.bel.size⟩, fun hl => ?_, fun hl => ?_, fun hl => ?_, fun hl => ?_, fun hl => ?_, h.bel.trans (hb.mono h.bel.size)⟩
  · rw [(u j (by omega)).1] at hl; rw [(u j (by omega)).2]; exact h.v j hj hl
  · rw [(u (k + 1) (by omega)).1, hl1] at hl; cases hl
  · rw [(u (k + 2) (by omega)).1, hl2] at hl; cases hl
  · rw [(u (k + 3) (by omega)).1] at hl; rw [(u (k + 3) (by omega)).2]; exact h.e1 hl
  · rw [(u (k + 4) (by omega)).1] at hl
    obtain ⟨nb, h1, h2, h3, _⟩ := h.al hl
    refine ⟨nb, (u (k + 4) (by omega)).2.trans h1, h2, ?_, fun _ e2 => ?_⟩
    · rw [(u (k + 5) (by omega)).1, hl5, if_neg Bool.false_ne_true]
      rw [hl5, if_neg Bool.false_ne_true] at h3
      exact h3.below hb
    · rw [updV_self] at e2
      have h5 := World.ownsRow.lt ho nb (by simpa [slcV, fstV, cellsV] using e2)
      have := h3.lt
      omega
  · rw [(u (k + 6) (by omega)).1] at hl; rw [(u (k + 6) (by omega)).2]; exact h.ag hl
theorem LwI.move (h : LwI wd T val k R L vs w) (hk : L k = true) : LwI wd T val k R (updB L (k + 1)) (updV vs (k + 1) (vs k)) w := by
  have u : ∀ j, j ≠ k + 1 → (updB L (k + 1)) j = L j ∧ (updV vs (k + 1) (vs k)) j = vs j := fun j hj => ⟨updB_ne L hj, updV_ne vs _ hj⟩
  refine ⟨fun j hj hl => ?_, fun hl => ?_, fun hl => ?_, fun hl => ?_, fun hl => ?_, fun hl => ?_, fun hl => ?_, h.bel⟩
  · rw [(u j (by omega)).1] at hl; rw [(u j (by omega)).2]; exact h.v j hj hl
  · rw [(u k (by omega)).2]; exact h.c hk
  · rw [(u k (by omega)).1, (u k (by omega)).2, updV_self]; exact ⟨hk, rfl⟩
  · rw [(u (k + 2) (by omega)).1] at hl; rw [(u k (by omega)).1, (u k (by omega)).2, (u (k + 2) (by omega)).2]; exact h.e0 hl
  · rw [(u (k + 3) (by omega)).1] at hl; rw [(u (k + 3) (by omega)).2]; exact h.e1 hl
  · rw [(u (k + 4) (by omega)).1] at hl; rw [(u (k + 4) (by omega)).2, (u (k + 5) (by omega)).1, (u k (by omega)).1, (u k (by omega)).2]; exact h.al hl
  · rw [(u (k + 6) (by omega)).1] at hl; rw [(u (k + 6) (by omega)).2]; exact h.ag hl
theorem LwI.ext0 (h : LwI wd T val k R L vs w) (hk : L k = true) : LwI wd T val k R (updB L (k + 2)) (updV vs (k + 2) (fstV (vs k))) w := by
  have u : ∀ j, j ≠ k + 2 → (updB L (k + 2)) j = L j ∧ (updV vs (k + 2) (fstV (vs k))) j = vs j := fun j hj => ⟨updB_ne L hj, updV_ne vs _ hj⟩
  refine ⟨fun j hj hl => ?_, fun hl => ?_, fun hl => ?_, fun hl => ?_, fun hl => ?_, fun hl => ?_, fun hl => ?_, h.bel⟩
  · rw [(u j (by omega)).1] at hl; rw [(u j (by omega)).2]; exact h.v j hj hl
  · rw [(u k (by omega)).2]; exact h.c hk
  · rw [(u (k + 1) (by omega)).1] at hl; rw [(u k (by omega)).1, (u k (by omega)).2, (u (k + 1) (by omega)).2]; exact h.m hl
  · rw [(u k (by omega)).1, (u k (by omega)).2, updV_self]; exact ⟨hk, rfl⟩
  · rw [(u (k + 3) (by omega)).1] at hl; rw [(u (k + 3) (by omega)).2]; exact h.e1 hl
  · rw [(u (k + 4) (by omega)).1] at hl; rw [(u (k + 4) (by omega)).2, (u (k + 5) (by omega)).1, (u k (by omega)).1, (u k (by omega)).2]; exact h.al hl
  · rw [(u (k + 6) (by omega)).1] at hl; rw [(u (k + 6) (by omega)).2]; exact h.ag hl
theorem LwI.ext1 (h : LwI wd T val k R L vs w) : LwI wd T val k R (updB L (k + 3)) (updV vs (k + 3) R.2) w := by
  have u : ∀ j, j ≠ k + 3 → (updB L (k + 3)) j = L j ∧ (updV vs (k + 3) R.2) j = vs j := fun j hj => ⟨updB_ne L hj, updV_ne vs _ hj⟩
  refine ⟨fun j hj hl => ?_, fun hl => ?_, fun hl => ?_, fun hl => ?_, fun hl => ?_, fun hl => ?_, fun hl => ?_, h.bel⟩
  · rw [(u j (by omega)).1] at hl; rw [(u j (by omega)).2]; exact h.v j hj hl
  · rw [(u k (by omega)).1] at hl; rw [(u k (by omega)).2]; exact h.c hl
  · rw [(u (k + 1) (by omega)).1] at hl; rw [(u k (by omega)).1, (u k (by omega)).2, (u (k + 1) (by omega)).2]; exact h.m hl
  · rw [(u (k + 2) (by omega)).1] at hl; rw [(u k (by omega)).1, (u k (by omega)).2, (u (k + 2) (by omega)).2]; exact h.e0 hl
  · exact updV_self ..
  · rw [(u (k + 4) (by omega)).1] at hl; rw [(u (k + 4) (by omega)).2, (u (k + 5) (by omega)).1, (u k (by omega)).1, (u k (by omega)).2]; exact h.al hl
  · rw [(u (k + 6) (by omega)).1] at hl; rw [(u (k + 6) (by omega)).2]; exact h.ag hl
theorem LwI.asg (h : LwI wd T val k R L vs w) : LwI wd T val k R (updB L (k + 6)) (updV vs (k + 6) R.2) w := by
  have u : ∀ j, j ≠ k + 6 → (updB L (k + 6)) j = L j ∧ (updV vs (k + 6) R.2) j = vs j := fun j hj => ⟨updB_ne L hj, updV_ne vs _ hj⟩
  refine ⟨fun j hj hl => ?_, fun hl => ?_, fun hl => ?_, fun hl => ?_, fun hl => ?_, fun hl => ?_, fun hl => ?_, h.bel⟩
  · rw [(u j (by omega)).1] at hl; rw [(u j (by omega)).2]; exact h.v j hj hl
  · rw [(u k (by omega)).1] at hl; rw [(u k (by omega)).2]; exact h.c hl
  · rw [(u (k + 1) (by omega)).1] at hl; rw [(u k (by omega)).1, (u k (by omega)).2, (u (k + 1) (by omega)).2]; exact h.m hl
  · rw [(u (k + 2) (by omega)).1] at hl; rw [(u k (by omega)).1, (u k (by omega)).2, (u (k + 2) (by omega)).2]; exact h.e0 hl
  · rw [(u (k + 3) (by omega)).1] at hl; rw [(u (k + 3) (by omega)).2]; exact h.e1 hl
  · rw [(u (k + 4) (by omega)).1] at hl; rw [(u (k + 4) (by omega)).2, (u (k + 5) (by omega)).1, (u k (by omega)).1, (u k (by omega)).2]; exact h.al hl
  · exact updV_self ..
theorem LwI.alc (h : LwI wd T val k R L vs w) (hl5 : L (k + 5) = false) : LwI wd T val k R (updB L (k + 4)) (updV vs (k + 4) (.pointer (some ⟨w.heap.size, 0, none⟩))) (w.alloc (.cells #[.int .i64 0, .slice none 0 0] T)) := by
  have u : ∀ j, j ≠ k + 4 → (updB L (k + 4)) j = L j ∧ (updV vs (k + 4) (.pointer (some ⟨w.heap.size, 0, none⟩))) j = vs j := fun j hj => ⟨updB_ne L hj, updV_ne vs _ hj⟩
  refine ⟨fun j hj hl => ?_, fun hl => ?_, fun hl => ?_, fun hl => ?_, fun hl => ?_, fun _ => ?_, fun hl => ?_, h.bel.trans ((al1 w _).mono h.bel.size)⟩
  · rw [(u j (by omega)).1] at hl; rw [(u j (by omega)).2]; exact h.v j hj hl
  · rw [(u k (by omega)).1] at hl; rw [(u k (by omega)).2]
    obtain ⟨A, c, h1, h2⟩ := h.c hl
    exact ⟨A, c, h1, h2.keep (al1 w _)⟩
  · rw [(u (k + 1) (by omega)).1] at hl; rw [(u k (by omega)).1, (u k (by omega)).2, (u (k + 1) (by omega)).2]; exact h.m hl
  · rw [(u (k + 2) (by omega)).1] at hl; rw [(u k (by omega)).1, (u k (by omega)).2, (u (k + 2) (by omega)).2]; exact h.e0 hl
  · rw [(u (k + 3) (by omega)).1] at hl; rw [(u (k + 3) (by omega)).2]; exact h.e1 hl
  · refine ⟨w.heap.size, updV_self .., h.bel.size, ?_, fun hl e => ?_⟩
    · rw [(u (k + 5) (by omega)).1, hl5, if_neg Bool.false_ne_true]; exact Bx.new w _ _
    · rw [(u k (by omega)).1] at hl; rw [(u k (by omega)).2] at e
      obtain ⟨A, c, h1, h2⟩ := h.c hl
      rw [h1] at e
      have h5 := World.ownsRow.lt h2 w.heap.size (by simpa [slcV, fstV, cellsV] using e)
      omega
  · rw [(u (k + 6) (by omega)).1] at hl; rw [(u (k + 6) (by omega)).2]; exact h.ag hl
theorem LwI.sto (h : LwI wd T val k R L vs w) (h4 : L (k + 4) = true) (hk : L k = true) {nb : Nat} (hv : vs (k + 4) = .pointer (some ⟨nb, 0, none⟩)) : LwI wd T val k R (updB L (k + 5)) (updV vs (k + 5) undef) (w.setRow nb (cellsV (fstV (vs k)))) := by
  have u : ∀ j, j ≠ k + 5 → (updB L (k + 5)) j = L j ∧ (updV vs (k + 5) undef) j = vs j := fun j hj => ⟨updB_ne L hj, updV_ne vs _ hj⟩
  obtain ⟨nb', h1, h2, h3, hne⟩ := h.al h4
  obtain rfl : nb' = nb := by rw [hv] at h1; simpa using h1.symm
  refine ⟨fun j hj hl => ?_, fun hl => ?_, fun hl => ?_, fun hl => ?_, fun hl => ?_, fun _ => ?_, fun hl => ?_, below_setRow h.bel h2 _⟩
  · rw [(u j (by omega)).1] at hl; rw [(u j (by omega)).2]; exact h.v j hj hl
  · rw [(u k (by omega)).2]
    obtain ⟨A, c, e1, e2⟩ := h.c hk
    have := hne hk
    rw [e1] at this
    exact ⟨A, c, e1, e2.rowO (by simpa [slcV, fstV, cellsV] using this)⟩
  · rw [(u (k + 1) (by omega)).1] at hl; rw [(u k (by omega)).1, (u k (by omega)).2, (u (k + 1) (by omega)).2]; exact h.m hl
  · rw [(u (k + 2) (by omega)).1] at hl; rw [(u k (by omega)).1, (u k (by omega)).2, (u (k + 2) (by omega)).2]; exact h.e0 hl
  · rw [(u (k + 3) (by omega)).1] at hl; rw [(u (k + 3) (by omega)).2]; exact h.e1 hl
  · rw [(u k (by omega)).1, (u k (by omega)).2, updB_self, if_pos rfl]
    exact ⟨nb', (u (k + 4) (by omega)).2.trans hv, h2, h3.row, hne⟩
  · rw [(u (k + 6) (by omega)).1] at hl; rw [(u (k + 6) (by omega)).2]; exact h.ag hl
theorem LwI.fin (h : LwI wd T val k R L vs w) (hall : ∀ i, i < k + 7 → L i = true) : ∃ nb A c, vs (k + 4) = .pointer (some ⟨nb, 0, none⟩) ∧ vs (k + 6) = R.2 ∧ wd.heap.size ≤ nb ∧ Bx w nb T #[.int .i64 R.1.1, .slice A R.1.2.length c] ∧ Own w wd.heap.size (.slice A R.1.2.length c) R.1.2.length R.1.2 ∧ (Value.slice A R.1.2.length c).ownBlock ≠ some nb ∧ Below wd.heap.size wd w := by
  obtain ⟨A, c, e1, e2⟩ := h.c (hall k (by omega))
  obtain ⟨nb, h1, h2, h3, hne⟩ := h.al (hall (k + 4) (by omega))
  have h4 := hne (hall k (by omega))
  rw [if_pos (hall (k + 5) (by omega)), e1] at h3
  rw [e1] at h4
  exact ⟨nb, A, c, h1, h.ag (hall (k + 6) (by omega)), h2, h3, e2, by simpa [slcV, fstV, cellsV] using h4, h.bel⟩
end
end Go.Proofs.Yteoddcamicmapaa
