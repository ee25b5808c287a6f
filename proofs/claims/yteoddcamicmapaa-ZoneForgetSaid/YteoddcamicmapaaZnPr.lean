/- Layer 13: plain facts of the reference's Model: the bounds of the first variables set to their least, and closed again. -/
import Derived.Test.YteoddcamicmapaaZnPi
import Derived.Test.YteoddcamicmapaaZnPj
namespace Go.Proofs.Yteoddcamicmapaa
open Go.RowKit

/-- c is closed, and holds what b holds with the first k variables at most at their least. -/
def RmI (m : Nat) (b c0 : List Int) (k : Nat) (c : List Int) : Prop :=
  Zv (m + 1) c ∧ cls (m + 1) c = some c ∧ ∀ u, Sat (m + 1) (dm (m + 1) c) u ↔ Sat (m + 1) (dm (m + 1) b) u ∧ ∀ i, i ≤ k → u i - u 0 ≤ mdV (gt (m + 1) c0) i
theorem RmI.start {m : Nat} {b c0 : List Int} (hz : Zv (m + 1) b) (hc : cls (m + 1) b = some c0) : RmI m b c0 0 c0 :=
  ⟨cls_zv hz hc, cls_self hz hc, fun u => (closed_dm hz hc u).trans ⟨fun h => ⟨h, fun i hi => by
    obtain rfl : i = 0 := by omega
    rw [mdV_zero]; omega⟩, fun h => h.1⟩⟩
theorem RmI.least {m k : Nat} {b c0 c : List Int} (hz : Zv (m + 1) b) (hc : cls (m + 1) b = some c0) (h : RmI m b c0 k c) : Sat (m + 1) (dm (m + 1) c) (mdV (gt (m + 1) c0)) := by
  have hi := cls_is hz hc
  exact (h.2.2 _).2 ⟨hi.satD (mdV_Sat hi hz.pos), fun i _ => by rw [mdV_zero]; omega⟩
theorem RmI.val {m k : Nat} {b c0 c : List Int} (hz : Zv (m + 1) b) (hc : cls (m + 1) b = some c0) (h : RmI m b c0 k c) (hk : k < m) : -gt (m + 1) c 0 (k + 1) = mdV (gt (m + 1) c0) (k + 1) := by
  have hi := cls_is hz hc
  have hi2 := cls_is h.1 h.2.1
  have h1 := (cls_sat h.1 h.2.1 _).2 (h.least hz hc) 0 (k + 1) (by omega) (by omega)
  rw [mdV_zero] at h1
  have h2 := hi2.sat (j := k + 1) (by omega)
  obtain ⟨h3, h4⟩ := (h.2.2 _).1 ((cls_sat h.1 h.2.1 _).1 h2)
  have h5 := (cls_sat hz hc _).2 h3
  have h6 : Sat (m + 1) (gt (m + 1) c0) (fun x => gt (m + 1) c x (k + 1) - gt (m + 1) c 0 (k + 1)) := fun i j hi hj => by
    have h50 := h5 i j hi hj
    have h51 : gt (m + 1) c i (k + 1) - gt (m + 1) c j (k + 1) ≤ gt (m + 1) c0 i j := h50
    show (gt (m + 1) c i (k + 1) - gt (m + 1) c 0 (k + 1)) - (gt (m + 1) c j (k + 1) - gt (m + 1) c 0 (k + 1)) ≤ _
    omega
  have h7 : ∀ i, i ≤ k → gt (m + 1) c i (k + 1) - gt (m + 1) c 0 (k + 1) = mdV (gt (m + 1) c0) i := by
    intro i
    induction i using Nat.strongRecOn with
    | _ i ih =>
      intro hik
      have g1 := mdV_least hi h6 (by show gt (m + 1) c 0 (k + 1) - gt (m + 1) c 0 (k + 1) = 0; omega) (k := i) (by omega) (fun j hj => ih j hj (by omega))
      have g2 := h4 i hik
      have g3 : mdV (gt (m + 1) c0) i ≤ gt (m + 1) c i (k + 1) - gt (m + 1) c 0 (k + 1) := g1
      have g4 : gt (m + 1) c i (k + 1) - gt (m + 1) c 0 (k + 1) ≤ mdV (gt (m + 1) c0) i := g2
      omega
  have h8 := mdV_least hi h6 (by show gt (m + 1) c 0 (k + 1) - gt (m + 1) c 0 (k + 1) = 0; omega) (k := k + 1) (by omega) (fun j hj => h7 j (by omega))
  have h9 : mdV (gt (m + 1) c0) (k + 1) ≤ gt (m + 1) c (k + 1) (k + 1) - gt (m + 1) c 0 (k + 1) := h8
  have h10 := hi2.dg (k + 1) (by omega)
  omega
theorem RmI.step {m k : Nat} {b c0 c : List Int} (hz : Zv (m + 1) b) (hc : cls (m + 1) b = some c0) (h : RmI m b c0 k c) (hk : k < m) :
    Zv (m + 1) (addL (m + 1) c (k + 1) 0 (mdV (gt (m + 1) c0) (k + 1))) ∧ ∃ c2, cls (m + 1) (addL (m + 1) c (k + 1) 0 (mdV (gt (m + 1) c0) (k + 1))) = some c2 ∧ RmI m b c0 (k + 1) c2 := by
  have hz2 := add_zv (C := mdV (gt (m + 1) c0) (k + 1)) h.1 (show k + 1 < m + 1 by omega) (show 0 < m + 1 by omega)
  have has := fun u => add_sat (C := mdV (gt (m + 1) c0) (k + 1)) h.1 (show k + 1 < m + 1 by omega) (show 0 < m + 1 by omega) u
  refine ⟨hz2, ?_⟩
  cases hc2 : cls (m + 1) (addL (m + 1) c (k + 1) 0 (mdV (gt (m + 1) c0) (k + 1))) with
  | none =>
    have := (cls_none hz2).1 hc2 (mdV (gt (m + 1) c0)) ((has _).2 ⟨h.least hz hc, by rw [mdV_zero]; omega⟩)
    exact this.elim
  | some c2 =>
    refine ⟨c2, rfl, cls_zv hz2 hc2, cls_self hz2 hc2, fun u => (closed_dm hz2 hc2 u).trans ((has u).trans ?_)⟩
    rw [h.2.2 u]
    constructor
    · rintro ⟨⟨g1, g2⟩, g3⟩
      exact ⟨g1, fun i hi => by
        by_cases e : i = k + 1
        · subst e; exact g3
        · exact g2 i (by omega)⟩
    · rintro ⟨g1, g2⟩
      exact ⟨⟨g1, fun i hi => g2 i (by omega)⟩, g2 (k + 1) (Nat.le_refl _)⟩
end Go.Proofs.Yteoddcamicmapaa
