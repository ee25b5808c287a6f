/- Layer 13: 'x, _ = f(..)' in any order: a call that makes a zone, a store into a variable: what holds between the operations. -/
import Derived.Test.YtepeeeiekeppjaaZnLw
import Derived.Test.YtepeeeiekeppjaaZnWi
namespace Go.Proofs.Ytepeeeiekeppjaa
open Go.RowKit

structure LxI (wd : World) (T : TypeId) (xb : Nat) (old : Array Value) (val : Nat → Value) (k : Nat) (R : (Int × List Int) × Value) (L : Nat → Bool) (vs : Nat → Value) (w : World) : Prop where
  v : ∀ i, i < k → L i = true → vs i = val i
  c : L k = true → ∃ A c, vs k = .tuple #[.agg #[.int .i64 R.1.1, .slice A R.1.2.length c], R.2] ∧ Own w wd.heap.size (.slice A R.1.2.length c) R.1.2.length R.1.2
  m : L (k + 1) = true → L k = true ∧ vs (k + 1) = vs k
  e0 : L (k + 2) = true → L k = true ∧ vs (k + 2) = fstV (vs k)
  box : Bx w xb T (if L (k + 4) = true then cellsV (fstV (vs k)) else old)
  lt : xb < wd.heap.size
  bel : L (k + 4) = false → Below wd.heap.size wd w
  only : Only xb wd w
section
variable {wd w w' : World} {T : TypeId} {xb : Nat} {old : Array Value} {val : Nat → Value} {k : Nat} {R : (Int × List Int) × Value} {L : Nat → Bool} {vs : Nat → Value}
theorem LxI.start (h : Bx wd xb T old) : LxI wd T xb old val k R (fun _ => false) vs wd.drew := ⟨fun _ _ h => nopeB rfl h, nopeB rfl, nopeB rfl, nopeB rfl, h, h.lt, fun _ => (Below.refl _ _).drew, Only.of (Below.refl _ _).drew⟩
theorem LxI.plain (h : LxI wd T xb old val k R L vs w) (i : Nat) (hi : i < k) (hlk : L k = false) (h4 : L (k + 4) = false) (hb : Below w.heap.size w w') : LxI wd T xb old val k R (updB L i) (updV vs i (val i)) w' := by
  have u : ∀ j, i ≠ j → (updB L i) j = L j ∧ (updV vs i (val i)) j = vs j := fun j hj => ⟨updB_ne L (fun e => hj e.symm), updV_ne vs _ (fun e => hj e.symm)⟩
  refine ⟨fun j hj hl => ?_, fun hl => ?_, fun hl => ?_, fun hl => ?_, ?_, h.lt, fun _ => (h.bel h4).trans (hb.mono (h.bel h4).size), h.only.trans hb⟩
  · by_cases e : j = i
    · subst e; exact updV_self ..
    · rw [(u j (fun e2 => e e2.symm)).1] at hl; rw [(u j (fun e2 => e e2.symm)).2]; exact h.v j hj hl
  · rw [(u k (by omega)).1, hlk] at hl; cases hl
  · rw [(u (k + 1) (by omega)).1] at hl; have := (h.m hl).1; rw [hlk] at this; cases this
  · rw [(u (k + 2) (by omega)).1] at hl; have := (h.e0 hl).1; rw [hlk] at this; cases this
  · have h3 := h.box
    rw [h4, if_neg Bool.false_ne_true] at h3
    rw [(u (k + 4) (by omega)).1, h4, if_neg Bool.false_ne_true]
    exact h3.below hb
theorem LxI.call (h : LxI wd T xb old val k R L vs w) (hl1 : L (k + 1) = false) (hl2 : L (k + 2) = false) (h4 : L (k + 4) = false) {e : Ending} (hz : ZP w R e w') : ∃ v, e = .returned v ∧ LxI wd T xb old val k R (updB L k) (updV vs k v) w' := by
  obtain ⟨v, rfl, ho, hb⟩ := hz
  obtain ⟨A, c, rfl⟩ := own_shapeG ho
  have u : ∀ j, j ≠ k → (updB L k) j = L j ∧ (updV vs k (.tuple #[.agg #[.int .i64 R.1.1, .slice A R.1.2.length c], R.2])) j = vs j := fun j hj => ⟨updB_ne L hj, updV_ne vs _ hj⟩
  refine ⟨_, rfl, fun j hj hl => ?_, fun _ => ⟨A, c, updV_self .., Own.mono ho (h.bel h4).size⟩, fun hl => ?_, fun hl => ?_, ?_, h.lt, fun _ => (h.bel h4).trans (hb.mono (h.bel h4).size), h.only.trans hb⟩
  · rw [(u j (by omega)).1] at hl; rw [(u j (by omega)).2]; exact h.v j hj hl
  · rw [(u (k + 1) (by omega)).1, hl1] at hl; cases hl
  · rw [(u (k + 2) (by omega)).1, hl2] at hl; cases hl
  · have h3 := h.box
    rw [h4, if_neg Bool.false_ne_true] at h3
    rw [(u (k + 4) (by omega)).1, h4, if_neg Bool.false_ne_true]
    exact h3.below hb
theorem LxI.move (h : LxI wd T xb old val k R L vs w) (hk : L k = true) : LxI wd T xb old val k R (updB L (k + 1)) (updV vs (k + 1) (vs k)) w := by
  have u : ∀ j, j ≠ k + 1 → (updB L (k + 1)) j = L j ∧ (updV vs (k + 1) (vs k)) j = vs j := fun j hj => ⟨updB_ne L hj, updV_ne vs _ hj⟩
  refine ⟨fun j hj hl => ?_, fun hl => ?_, fun hl => ?_, fun hl => ?_, ?_, h.lt, fun hl => ?_, h.only⟩
  · rw [(u j (by omega)).1] at hl; rw [(u j (by omega)).2]; exact h.v j hj hl
  · rw [(u k (by omega)).2]; exact h.c hk
  · rw [(u k (by omega)).1, (u k (by omega)).2, updV_self]; exact ⟨hk, rfl⟩
  · rw [(u (k + 2) (by omega)).1] at hl; rw [(u k (by omega)).1, (u k (by omega)).2, (u (k + 2) (by omega)).2]; exact h.e0 hl
  · rw [(u (k + 4) (by omega)).1, (u k (by omega)).2]; exact h.box
  · rw [(u (k + 4) (by omega)).1] at hl; exact h.bel hl
theorem LxI.ext0 (h : LxI wd T xb old val k R L vs w) (hk : L k = true) : LxI wd T xb old val k R (updB L (k + 2)) (updV vs (k + 2) (fstV (vs k))) w := by
  have u : ∀ j, j ≠ k + 2 → (updB L (k + 2)) j = L j ∧ (updV vs (k + 2) (fstV (vs k))) j = vs j := fun j hj => ⟨updB_ne L hj, updV_ne vs _ hj⟩
  refine ⟨fun j hj hl => ?_, fun hl => ?_, fun hl => ?_, fun hl => ?_, ?_, h.lt, fun hl => ?_, h.only⟩
  · rw [(u j (by omega)).1] at hl; rw [(u j (by omega)).2]; exact h.v j hj hl
  · rw [(u k (by omega)).2]; exact h.c hk
  · rw [(u (k + 1) (by omega)).1] at hl; rw [(u k (by omega)).1, (u k (by omega)).2, (u (k + 1) (by omega)).2]; exact h.m hl
  · rw [(u k (by omega)).1, (u k (by omega)).2, updV_self]; exact ⟨hk, rfl⟩
  · rw [(u (k + 4) (by omega)).1, (u k (by omega)).2]; exact h.box
  · rw [(u (k + 4) (by omega)).1] at hl; exact h.bel hl
theorem LxI.ext1 (h : LxI wd T xb old val k R L vs w) : LxI wd T xb old val k R (updB L (k + 3)) (updV vs (k + 3) R.2) w := by
  have u : ∀ j, j ≠ k + 3 → (updB L (k + 3)) j = L j ∧ (updV vs (k + 3) R.2) j = vs j := fun j hj => ⟨updB_ne L hj, updV_ne vs _ hj⟩
  refine ⟨fun j hj hl => ?_, fun hl => ?_, fun hl => ?_, fun hl => ?_, ?_, h.lt, fun hl => ?_, h.only⟩
  · rw [(u j (by omega)).1] at hl; rw [(u j (by omega)).2]; exact h.v j hj hl
  · rw [(u k (by omega)).1] at hl; rw [(u k (by omega)).2]; exact h.c hl
  · rw [(u (k + 1) (by omega)).1] at hl; rw [(u k (by omega)).1, (u k (by omega)).2, (u (k + 1) (by omega)).2]; exact h.m hl
  · rw [(u (k + 2) (by omega)).1] at hl; rw [(u k (by omega)).1, (u k (by omega)).2, (u (k + 2) (by omega)).2]; exact h.e0 hl
  · rw [(u (k + 4) (by omega)).1, (u k (by omega)).2]; exact h.box
  · rw [(u (k + 4) (by omega)).1] at hl; exact h.bel hl
theorem LxI.sto (h : LxI wd T xb old val k R L vs w) (hk : L k = true) : LxI wd T xb old val k R (updB L (k + 4)) (updV vs (k + 4) undef) (w.setRow xb (cellsV (fstV (vs k)))) := by
  have u : ∀ j, j ≠ k + 4 → (updB L (k + 4)) j = L j ∧ (updV vs (k + 4) undef) j = vs j := fun j hj => ⟨updB_ne L hj, updV_ne vs _ hj⟩
  refine ⟨fun j hj hl => ?_, fun hl => ?_, fun hl => ?_, fun hl => ?_, ?_, h.lt, fun hl => ?_, h.only.row⟩
  · rw [(u j (by omega)).1] at hl; rw [(u j (by omega)).2]; exact h.v j hj hl
  · rw [(u k (by omega)).2]
    obtain ⟨A, c, e1, e2⟩ := h.c hk
    exact ⟨A, c, e1, e2.rowO (e2.lt (.inl h.lt))⟩
  · rw [(u (k + 1) (by omega)).1] at hl; rw [(u k (by omega)).1, (u k (by omega)).2, (u (k + 1) (by omega)).2]; exact h.m hl
  · rw [(u (k + 2) (by omega)).1] at hl; rw [(u k (by omega)).1, (u k (by omega)).2, (u (k + 2) (by omega)).2]; exact h.e0 hl
  · rw [updB_self, if_pos rfl, (u k (by omega)).2]; exact h.box.row
  · rw [updB_self] at hl; cases hl
theorem LxI.fin (h : LxI wd T xb old val k R L vs w) (hall : ∀ i, i < k + 5 → L i = true) : ∃ A c, Bx w xb T #[.int .i64 R.1.1, .slice A R.1.2.length c] ∧ Own w wd.heap.size (.slice A R.1.2.length c) R.1.2.length R.1.2 ∧ Only xb wd w := by
  obtain ⟨A, c, e1, e2⟩ := h.c (hall k (by omega))
  have h3 := h.box
  rw [if_pos (hall (k + 4) (by omega)), e1] at h3
  exact ⟨A, c, h3, e2, h.only⟩
end
/-! The model, bound by bound. -/
theorem knB_nat {m q : Nat} (hq : q < m) : knB (m : Int) (q : Int) = true := by unfold knB; exact decide_eq_true (by omega)
theorem knB_neg (m : Nat) : knB (m : Int) (-1) = true := by unfold knB; exact decide_eq_true (by omega)
theorem addZ_lo {m q : Nat} {b : List Int} {C : Int} (h : zvB (m : Int) b = true) (hq : q < m) : addZ (m : Int) b (q : Int) (-1) C = (((m : Int), addL (m + 1) b (q + 1) 0 C), .int .i64 0) := by
  have := addZ_in (m := m) (b := b) (i := q + 1) (j := 0) (C := C) h (by rw [show ((q + 1 : Nat) : Int) - 1 = (q : Int) by omega, show ((0 : Nat) : Int) - 1 = -1 by omega, knB_nat hq, knB_neg]; rfl)
  rwa [show ((q + 1 : Nat) : Int) - 1 = (q : Int) by omega, show ((0 : Nat) : Int) - 1 = -1 by omega] at this
theorem addZ_hi {m q : Nat} {b : List Int} {C : Int} (h : zvB (m : Int) b = true) (hq : q < m) : addZ (m : Int) b (-1) (q : Int) C = (((m : Int), addL (m + 1) b 0 (q + 1) C), .int .i64 0) := by
  have := addZ_in (m := m) (b := b) (i := 0) (j := q + 1) (C := C) h (by rw [show ((q + 1 : Nat) : Int) - 1 = (q : Int) by omega, show ((0 : Nat) : Int) - 1 = -1 by omega, knB_nat hq, knB_neg]; rfl)
  rwa [show ((q + 1 : Nat) : Int) - 1 = (q : Int) by omega, show ((0 : Nat) : Int) - 1 = -1 by omega] at this
end Go.Proofs.Ytepeeeiekeppjaa
