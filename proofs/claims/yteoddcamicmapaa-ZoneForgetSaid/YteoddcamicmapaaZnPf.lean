/- Layer 13: plain facts of Forget. -/
import Derived.Test.YteoddcamicmapaaZnFg
import Derived.Test.YteoddcamicmapaaZnPi
namespace Go.Proofs.Yteoddcamicmapaa
open Go.RowKit

/-- The greatest of some numbers. -/
theorem top_ex (f : Nat → Int) (q : Nat) (hq : q ≠ 0) : ∀ n, 1 ≤ n → ∃ t, (∀ i, i < n → i ≠ q → f i ≤ t) ∧ ∃ i, i < n ∧ i ≠ q ∧ t = f i := by
  intro n
  induction n with
  | zero => intro h; omega
  | succ n ih =>
    intro _
    by_cases hn : n = 0
    · subst hn
      refine ⟨f 0, fun i hi _ => ?_, 0, by omega, hq.symm, rfl⟩
      obtain rfl : i = 0 := by omega
      exact Int.le_refl _
    · obtain ⟨t, h1, i0, h2, h3, h4⟩ := ih (by omega)
      by_cases e : n = q ∨ f n ≤ t
      · refine ⟨t, fun i hi hne => ?_, i0, by omega, h3, h4⟩
        by_cases e2 : i = n
        · subst e2
          rcases e with e | e
          · exact absurd e hne
          · exact e
        · exact h1 i (by omega) hne
      · have e1 : n ≠ q := fun h => e (.inl h)
        have e2 : t < f n := by
          by_cases h : f n ≤ t
          · exact absurd (.inr h) e
          · omega
        refine ⟨f n, fun i hi hne => ?_, n, by omega, e1, rfl⟩
        by_cases e3 : i = n
        · subst e3; exact Int.le_refl _
        · have := h1 i (by omega) hne; omega
/-- The numbers k ahead of i, without x, are those of the values. -/
def FxI (m : Nat) (z vs : List Int) (x i : Nat) (f : List Int) : Prop :=
  Zv (m + 1) f ∧ ∀ u, Sat (m + 1) (dm (m + 1) f) u ↔ Sat (m + 1) (dm (m + 1) z) u ∧ ∀ k, k < i → k ≠ x → u (k + 1) - u 0 = vs.getD k 0
theorem FxI.start {m : Nat} {z vs : List Int} {x : Nat} (hz : Zv (m + 1) z) : FxI m z vs x 0 z := ⟨hz, fun u => ⟨fun h => ⟨h, fun k hk => by omega⟩, fun h => h.1⟩⟩
theorem FxI.skip {m : Nat} {z vs f : List Int} {x : Nat} (h : FxI m z vs x x f) : FxI m z vs x (x + 1) f := ⟨h.1, fun u => (h.2 u).trans ⟨fun h2 => ⟨h2.1, fun k hk hne => h2.2 k (by omega) hne⟩, fun h2 => ⟨h2.1, fun k hk hne => h2.2 k (by omega) hne⟩⟩⟩
theorem FxI.step {m : Nat} {z vs f : List Int} {x i : Nat} (h : FxI m z vs x i f) (hi : i < m) (hne : i ≠ x) :
    FxI m z vs x (i + 1) (addL (m + 1) (addL (m + 1) f (i + 1) 0 (vs.getD i 0)) 0 (i + 1) (-vs.getD i 0)) := by
  have h1 := add_zv (C := vs.getD i 0) h.1 (show i + 1 < m + 1 by omega) (show 0 < m + 1 by omega)
  refine ⟨add_zv h1 (show 0 < m + 1 by omega) (show i + 1 < m + 1 by omega), fun u => ?_⟩
  rw [add_sat h1 (show 0 < m + 1 by omega) (show i + 1 < m + 1 by omega), add_sat h.1 (show i + 1 < m + 1 by omega) (show 0 < m + 1 by omega), h.2 u]
  constructor
  · rintro ⟨⟨⟨a1, a2⟩, a3⟩, a4⟩
    refine ⟨a1, fun k hk hkx => ?_⟩
    by_cases e : k = i
    · subst e; omega
    · exact a2 k (by omega) hkx
  · rintro ⟨a1, a2⟩
    have := a2 i (by omega) hne
    exact ⟨⟨⟨a1, fun k hk hkx => a2 k (by omega) hkx⟩, by omega⟩, by omega⟩
theorem FxI.zv {m : Nat} {z vs f : List Int} {x i : Nat} (h : FxI m z vs x i f) : Zv (m + 1) f := h.1
theorem FxI.mid {m : Nat} {z vs f : List Int} {x i : Nat} (h : FxI m z vs x i f) (hi : i < m) : Zv (m + 1) (addL (m + 1) f (i + 1) 0 (vs.getD i 0)) := add_zv h.1 (show i + 1 < m + 1 by omega) (show 0 < m + 1 by omega)
theorem mod_some {m : Nat} {f : List Int} (h : Zv (m + 1) f) : (modR (m : Int) f).2 = true ↔ ∃ u, Sat (m + 1) (dm (m + 1) f) u := by
  cases hc : cls (m + 1) f with
  | none =>
    rw [modR_none h hc]
    exact ⟨fun h => (by cases h), fun ⟨u, hu⟩ => absurd hu ((cls_none h).1 hc u)⟩
  | some c =>
    rw [modR_some h hc]
    have hi := cls_is h hc
    exact ⟨fun _ => ⟨_, hi.satD (hi.sat (j := 0) h.pos)⟩, fun _ => rfl⟩
theorem frg_zv {m x : Nat} {z : List Int} (hz : Zv (m + 1) z) (hx : x < m) : ∃ l, frgZ (m : Int) z (x : Int) = (((m : Int), l), .int .i64 0) ∧ Zv (m + 1) l := by
  cases hc : cls (m + 1) z with
  | none => exact ⟨_, frgZ_none hz hx hc, em_zv hz.pos hz.few⟩
  | some c =>
    obtain ⟨c2, hc2⟩ := fg_some (x := x) hz hc
    exact ⟨_, frgZ_some hz hx hc hc2, cls_zv (fg_zv (cls_zv hz hc)) hc2⟩
/-- What the law says. -/
theorem frg_law {m x : Nat} {z vs l f : List Int} (hz : Zv (m + 1) z) (hx : x < m) (hl : frgZ (m : Int) z (x : Int) = (((m : Int), l), .int .i64 0)) (hn : vs.length = m) (hv : ∀ y ∈ vs, InV y) (hf : FxI m z vs x m f) :
    holdsR (m : Int) l vs = (modR (m : Int) f).2 := by
  have hzl : Zv (m + 1) l := by
    obtain ⟨l', h1, h2⟩ := frg_zv hz hx
    rw [hl] at h1
    simp only [Prod.mk.injEq, and_true, true_and] at h1
    rw [h1]; exact h2
  have nm0 : nmB vs 0 = 0 := rfl
  have nms : ∀ k, nmB vs (k + 1) = vs.getD k 0 := fun k => by unfold nmB; rw [List.getD_cons_succ]
  have hnb := nm_in hv
  have key : (vs.length = m ∧ (∀ y ∈ vs, InV y) ∧ Sat (m + 1) (dm (m + 1) l) (nmB vs)) ↔ ∃ u, Sat (m + 1) (dm (m + 1) f) u := by
    cases hc : cls (m + 1) z with
    | none =>
      have e := frgZ_none hz hx hc
      rw [hl] at e
      simp only [Prod.mk.injEq, and_true, true_and] at e
      constructor
      · rintro ⟨_, _, hs⟩
        rw [e] at hs
        exact absurd hs ((cls_none (em_zv hz.pos hz.few)).1 (em_none hz.pos hz.few) _)
      · rintro ⟨u, hu⟩
        exact absurd ((hf.2 u).1 hu).1 ((cls_none hz).1 hc u)
    | some c =>
      obtain ⟨c2, hc2⟩ := fg_some (x := x) hz hc
      have e := frgZ_some hz hx hc hc2
      rw [hl] at e
      simp only [Prod.mk.injEq, and_true, true_and] at e
      subst e
      have hi := cls_is hz hc
      have hzf := fg_zv (x := x) (cls_zv hz hc)
      have hgf : ∀ i j, i < m + 1 → j < m + 1 → gt (m + 1) (flat (m + 1) (fgB (m + 1) c x)) i j = fgB (m + 1) c x i j := fun i j h1 h2 => gt_flat _ h1 h2
      have hcd := closed_dm hzf hc2 (nmB vs)
      constructor
      · rintro ⟨_, _, hs⟩
        have hs2 := hcd.1 hs
        have hold : ∀ i j, i < m + 1 → j < m + 1 → i ≠ x + 1 → j ≠ x + 1 → nmB vs i - nmB vs j ≤ gt (m + 1) c i j := fun i j h1 h2 h3 h4 => by
          have h5 := hs2 i j h1 h2
          unfold dm at h5
          rw [hgf i j h1 h2] at h5
          unfold fgB at h5
          rw [if_neg (by rintro (h | h) <;> contradiction)] at h5
          omega
        obtain ⟨t, ht1, i0, hi0, hi1, ht2⟩ := top_ex (fun i => nmB vs i - gt (m + 1) c i (x + 1)) (x + 1) (by omega) (m + 1) (by omega)
        refine ⟨fun k => if k = x + 1 then t else nmB vs k, (hf.2 _).2 ⟨(cls_sat hz hc _).1 fun i j h1 h2 => ?_, fun k hk hne => ?_⟩⟩
        · have _hz := hz
          by_cases e1 : i = x + 1
          · by_cases e2 : j = x + 1
            · rw [if_pos e1, if_pos e2, e1, e2, hi.dg (x + 1) (by omega)]; omega
            · rw [if_pos e1, if_neg e2, e1]
              have g1 := hold i0 j hi0 h2 hi1 e2
              have g2 := hi.tr i0 j (x + 1) hi0 h2 (by omega)
              omega
          · by_cases e2 : j = x + 1
            · rw [if_neg e1, if_pos e2, e2]
              have := ht1 i h1 e1
              omega
            · rw [if_neg e1, if_neg e2]
              exact hold i j h1 h2 e1 e2
        · have _hz := hz
          rw [if_neg (by omega), if_neg (by omega), nms, nm0]; omega
      · rintro ⟨u, hu⟩
        obtain ⟨hu1, hu2⟩ := (hf.2 u).1 hu
        have hu3 := (cls_sat hz hc u).2 hu1
        have hnu : ∀ k, k < m + 1 → k ≠ x + 1 → nmB vs k = u k - u 0 := fun k hk hne => by
          cases k with
          | zero => rw [nm0]; omega
          | succ k => rw [nms, hu2 k (by omega) (by omega)]
        refine ⟨hn, hv, hcd.2 fun i j h1 h2 => ?_⟩
        have b1 := hnb i; have b2 := hnb j
        unfold InV at b1 b2
        have hfu : nmB vs i - nmB vs j ≤ fuB i j := by
          unfold fuB
          split
          · rename_i e; subst e; omega
          · split
            · rename_i e
              rcases e with rfl | rfl
              · rw [nm0]; omega
              · rw [nm0]; omega
            · omega
        unfold dm
        rw [hgf i j h1 h2]
        unfold fgB
        split
        · omega
        · rename_i e
          have e1 : i ≠ x + 1 := fun h => e (.inl h)
          have e2 : j ≠ x + 1 := fun h => e (.inr h)
          have := hu3 i j h1 h2
          rw [hnu i h1 e1, hnu j h2 e2] at hfu ⊢
          omega
  cases hb : holdsR (m : Int) l vs with
  | true => exact (((mod_some hf.1).2 (key.1 ((holdsR_nat hzl).1 hb)))).symm
  | false =>
    cases hm : (modR (m : Int) f).2 with
    | false => rfl
    | true =>
      have := (holdsR_nat hzl).2 (key.2 ((mod_some hf.1).1 hm))
      rw [hb] at this; cases this
theorem holds_out {N : Int} {b vs : List Int} {x : Int} (hx : x ∈ vs) (h : ¬ InV x) : holdsR N b vs = false := by
  unfold holdsR
  rw [decide_eq_false (p := ∀ x ∈ vs, InV x) (fun hall => h (hall x hx))]
  simp
/-- Rows and columns ahead of i are forgotten. -/
def fgR (n : Nat) (c : List Int) (x i : Nat) : List Int := flat n fun a b => if (b = x + 1 ∧ a < i) ∨ (a = x + 1 ∧ b < i) then fuB a b else gt n c a b
theorem fgR_len (n : Nat) (c : List Int) (x i : Nat) : (fgR n c x i).length = n * n := flat_len _ _
theorem fgR_zero {n : Nat} {c : List Int} (hc : c.length = n * n) (x : Nat) : fgR n c x 0 = c := by
  unfold fgR
  rw [show (fun a b => if (b = x + 1 ∧ a < 0) ∨ (a = x + 1 ∧ b < 0) then fuB a b else gt n c a b) = gt n c from by funext a b; rw [if_neg (by omega)], flat_gt hc]
theorem fgR_all (n : Nat) (c : List Int) (x : Nat) : fgR n c x n = flat n (fgB n c x) := flat_ext fun i j hi hj => by
  unfold fgB
  by_cases e : i = x + 1 ∨ j = x + 1
  · rw [if_pos e, if_pos (by omega)]
  · rw [if_neg e, if_neg (by omega)]
theorem fgR_step {n x i : Nat} (c : List Int) (hx : x + 1 < n) (hi : i < n) : ((fgR n c x i).set (i * n + (x + 1)) (fuB i (x + 1))).set ((x + 1) * n + i) (fuB (x + 1) i) = fgR n c x (i + 1) := by
  have hl := fgR_len n c x i
  refine sq_ext (n := n) (by rw [List.length_set, List.length_set, hl]) (fgR_len _ _ _ _) fun a b ha hb => ?_
  rw [gt_set _ (by rw [List.length_set, hl]) hx hi hb, gt_set _ hl hi hx hb]
  unfold fgR
  rw [gt_flat _ ha hb, gt_flat _ ha hb]
  by_cases e1 : a = x + 1 ∧ b = i
  · obtain ⟨rfl, rfl⟩ := e1
    rw [if_pos ⟨rfl, rfl⟩, if_pos (by omega)]
  · rw [if_neg e1]
    by_cases e2 : a = i ∧ b = x + 1
    · obtain ⟨rfl, rfl⟩ := e2
      rw [if_pos ⟨rfl, rfl⟩, if_pos (by omega)]
    · rw [if_neg e2]
      by_cases e3 : (b = x + 1 ∧ a < i) ∨ (a = x + 1 ∧ b < i)
      · rw [if_pos e3, if_pos (by omega)]
      · rw [if_neg e3, if_neg (by omega)]
end Go.Proofs.Yteoddcamicmapaa
