/- GraphSteps: what holds of the distances and of the path. -/
import Derived.Test.YtnhhhnhakpambaaGraphPath
import Derived.Test.YtnhhhnhakpambaaGraphReversed
import Derived.Test.YtnhhhnhakpambaaGraphOrders
namespace Go.Proofs.Ytnhhhnhakpambaa
open Go.RowKit

section
variable {g : List (List Nat)} {t : Nat} {D : List Int}
theorem dist_zero (hD : IsDist g [t] D) {u : Nat} (hu : u < g.length) : dat D u = 0 ↔ u = t := by
  rcases hD.at_ u hu with ⟨h1, h2⟩ | ⟨k, h1, h2⟩
  · constructor
    · intro h; omega
    · rintro rfl; exact absurd (show RchN g [u] 0 u by simp [RchN]) (h2 0)
  · constructor
    · intro h
      have hk : k = 0 := by omega
      subst hk
      simpa [RchN] using h2.1
    · rintro rfl
      have := h2.2 0 (by simp [RchN])
      omega
theorem dist_edge (hg : VG g) (hD : IsDist g [t] D) {u x : Nat} (hu : u < g.length) (hx : x ∈ row g u) (h0 : 0 ≤ dat D u) : 0 ≤ dat D x ∧ dat D x ≤ dat D u + 1 := by
  rcases hD.at_ u hu with ⟨h1, _⟩ | ⟨k, h1, h2⟩
  · omega
  · have hr : RchN g [t] (k + 1) x := ⟨u, h2.1, hx⟩
    rcases hD.at_ x (hg.node u x hx) with ⟨_, h4⟩ | ⟨j, h3, h4⟩
    · exact absurd hr (h4 _)
    · have := h4.2 _ hr
      omega
theorem dist_pred (hg : VG g) (ht : t < g.length) (hD : IsDist g [t] D) {x : Nat} (hx : x < g.length) (h0 : 0 < dat D x) : ∃ u, u < g.length ∧ x ∈ row g u ∧ 0 ≤ dat D u ∧ dat D x = dat D u + 1 := by
  rcases hD.at_ x hx with ⟨h1, _⟩ | ⟨k, h1, h2⟩
  · omega
  · cases k with
    | zero => omega
    | succ k =>
      obtain ⟨u, hu, hxu⟩ := h2.1
      have hun : u < g.length := hu.node hg (by simpa using ht)
      rcases hD.at_ u hun with ⟨_, h4⟩ | ⟨j, h3, h4⟩
      · exact absurd hu (h4 k)
      · have h5 := h4.2 k hu
        have h6 := h2.2 (j + 1) ⟨u, h4.1, hxu⟩
        exact ⟨u, hun, hxu, by omega, by omega⟩
theorem dist_low (hD : IsDist g [t] D) {u : Nat} (hu : u < g.length) : -1 ≤ dat D u := by
  rcases hD.at_ u hu with ⟨h1, _⟩ | ⟨k, h1, _⟩ <;> omega
theorem dist_high (hg : VG g) (ht : t < g.length) (hD : IsDist g [t] D) {u : Nat} (hu : u < g.length) : dat D u < g.length := by
  rcases hD.at_ u hu with ⟨h1, _⟩ | ⟨k, h1, h2⟩
  · omega
  · have := h2.lt hg (by simpa using ht)
    omega
theorem rev_dist (hg : VG g) {x y : Nat} (hx : x < g.length) (hy : y < g.length) (hD : IsDist g [x] D) {L : List Int} (hL : IsDist (revM g) [y] L) : dat D y = dat L x := by
  have hr : ∀ k, RchN g [x] k y ↔ RchN (revM g) [y] k x := fun k => RchN.rev (revM_rev hg)
  rcases hD.at_ y hy with ⟨h1, h2⟩ | ⟨k, h1, h2⟩ <;> rcases hL.at_ x (by rw [revM_len]; exact hx) with ⟨h3, h4⟩ | ⟨j, h3, h4⟩
  · omega
  · exact absurd ((hr j).2 h4.1) (h2 j)
  · exact absurd ((hr k).1 h2.1) (h4 k)
  · have a1 := h2.2 j ((hr j).2 h4.1)
    have a2 := h4.2 k ((hr k).1 h2.1)
    omega
end
theorem pathM_get {g : List (List Nat)} {L : List Int} {u k i : Nat} (h : i ≤ k) : (pathM g L u k)[i]? = some (stepM g L u i) := by
  unfold pathM
  rw [List.getElem?_map, List.getElem?_range (by omega)]; rfl
theorem path_adj {g : List (List Nat)} {t : Nat} {L : List Int} (hg : VG g) (hL : IsDist (revM g) [t] L) {u k : Nat} (hu : u < g.length) (hd : dat L u = (k : Int)) {i : Nat} (hi : i + 1 ≤ k) : stepM g L u (i + 1) ∈ row g (stepM g L u i) := by
  obtain ⟨h1, h2⟩ := step_at hg hL hu hd i (by omega)
  obtain ⟨r, _, h3, _⟩ := near_next hg hL (u := stepM g L u i) (d := k - (i + 1)) h1 (by rw [h2]; omega)
  exact h3
theorem path_end {g : List (List Nat)} {t : Nat} {L : List Int} (hg : VG g) (hL : IsDist (revM g) [t] L) {u k : Nat} (hu : u < g.length) (hd : dat L u = (k : Int)) : stepM g L u k = t := by
  obtain ⟨h1, h2⟩ := step_at hg hL hu hd k (Nat.le_refl _)
  exact (near_zero hL h1).1 (by rw [h2]; simp)
/-- near before the m-th edge of node k. -/
def NearI (g : List (List Nat)) (D : List Int) (k m : Nat) (B : List Bool) : Prop :=
  B.length = g.length ∧ ∀ a j u, (a < k ∨ (a = k ∧ j < m)) → (row g a)[j]? = some u → 0 ≤ dat D a → dat D u = dat D a + 1 → B[u]? = some true
section
variable {g : List (List Nat)} {D : List Int} {k m x : Nat} {B : List Bool}
theorem NearI.start : NearI g D 0 0 (List.replicate g.length false) := ⟨by simp, fun a j u h => by omega⟩
theorem NearI.next (h : NearI g D k (row g k).length B) : NearI g D (k + 1) 0 B := ⟨h.1, fun a j u hx hj => h.2 a j u (by
  have := (List.getElem?_eq_some_iff.1 hj).1
  rcases hx with hx | hx
  · by_cases e : a = k
    · subst e; right; exact ⟨rfl, this⟩
    · left; omega
  · omega) hj⟩
theorem NearI.step (h : NearI g D k m B) (hu : (row g k)[m]? = some x) (hx : x < g.length) {c : Bool} (hc1 : B[x]? = some true → c = true) (hc2 : 0 ≤ dat D k → dat D x = dat D k + 1 → c = true) : NearI g D k (m + 1) (B.set x c) := by
  refine ⟨by simp [h.1], fun a j u hp hj h0 h1 => ?_⟩
  rw [List.getElem?_set]
  by_cases e : x = u
  · subst e
    rw [if_pos rfl, if_pos (by rw [h.1]; exact hx)]
    by_cases e2 : a = k ∧ j = m
    · obtain ⟨rfl, rfl⟩ := e2
      rw [hc2 h0 h1]
    · rw [hc1 (h.2 a j x (by omega) hj h0 h1)]
  · rw [if_neg e]
    by_cases e2 : a = k ∧ j = m
    · obtain ⟨rfl, rfl⟩ := e2
      rw [hj] at hu
      exact absurd (Option.some.inj hu).symm e
    · exact h.2 a j u (by omega) hj h0 h1
theorem NearI.all {t : Nat} (h : NearI g D g.length 0 B) (hg : VG g) (ht : t < g.length) (hD : IsDist g [t] D) (hx : x < g.length) (h0 : 0 < dat D x) : B[x]? = some true := by
  obtain ⟨u, hu, hxu, h1, h2⟩ := dist_pred hg ht hD hx h0
  obtain ⟨j, hj, e⟩ := List.getElem_of_mem hxu
  exact h.2 u j x (.inl hu) (by rw [← e]; exact List.getElem?_eq_getElem hj) h1 h2
end
theorem row_set_b {B : List Bool} {w : World} {b t : Nat} (h : Row w b t (B.map Value.bool)) (v : Nat) (x : Bool) : Row (w.setCell ⟨b, v, none⟩ (.bool x)) b t ((B.set v x).map Value.bool) := by
  rw [List.map_set]; exact h.set v _
theorem b_cell {B : List Bool} {w : World} {b t v : Nat} {x : Bool} (h : Row w b t (B.map Value.bool)) (hv : B[v]? = some x) : w.cell? ⟨b, v, none⟩ = some (.bool x) := h.cell (by rw [List.getElem?_map, hv]; rfl)
end Go.Proofs.Ytnhhhnhakpambaa
