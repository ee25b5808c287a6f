/- Layer 13: plain facts of Add, Implies, Model and Holds. -/
import Derived.Test.YteoddcamicmapaaZnHl
import Derived.Test.YteoddcamicmapaaZnIm
namespace Go.Proofs.Yteoddcamicmapaa
open Go.RowKit

theorem sat_congr {n : Nat} {M : Nat → Nat → Int} {u v : Nat → Int} (h : ∀ i, i < n → u i = v i) (hu : Sat n M u) : Sat n M v := fun i j hi hj => by
  have := hu i j hi hj
  rw [h i hi, h j hj] at this
  exact this
theorem add_zv {n i j : Nat} {b : List Int} {C : Int} (h : Zv n b) (hi : i < n) (hj : j < n) : Zv n (addL n b i j C) :=
  have hg : ∀ k l, k < n → l < n → gt n (addL n b i j C) k l = if k = i ∧ l = j then min (gt n b i j) (max C (-20001)) else gt n b k l := fun k l _ hl => gt_set _ h.len hi hj hl
  ⟨h.pos, h.few, by unfold addL; rw [List.length_set]; exact h.len, fun k l hk hl => by
    rw [hg k l hk hl]
    have := h.lo k l hk hl; have := h.lo i j hi hj
    split <;> omega, fun k l hk hl => by
    rw [hg k l hk hl]
    have := h.hi k l hk hl; have := h.hi i j hi hj
    split <;> omega⟩
theorem sat_lo {n : Nat} {b : List Int} {u : Nat → Int} (hu : Sat n (dm n b) u) {i j : Nat} (hi : i < n) (hj : j < n) : -20000 ≤ u i - u j := by
  have := hu j i hj hi
  have := fuB_hi j i
  unfold dm at *
  omega
/-- A further bound. -/
theorem add_sat {n i j : Nat} {b : List Int} {C : Int} (h : Zv n b) (hi : i < n) (hj : j < n) (u : Nat → Int) : Sat n (dm n (addL n b i j C)) u ↔ Sat n (dm n b) u ∧ u i - u j ≤ C := by
  have hg : ∀ k l, k < n → l < n → gt n (addL n b i j C) k l = if k = i ∧ l = j then min (gt n b i j) (max C (-20001)) else gt n b k l := fun k l _ hl => gt_set _ h.len hi hj hl
  constructor
  · intro hs
    have hz : Sat n (dm n b) u := fun k l hk hl => by
      have h1 := hs k l hk hl
      unfold dm at h1 ⊢
      rw [hg k l hk hl] at h1
      split at h1
      · rename_i e; obtain ⟨rfl, rfl⟩ := e; omega
      · exact h1
    refine ⟨hz, ?_⟩
    have h1 := hs i j hi hj
    have h2 := sat_lo hz hi hj
    unfold dm at h1
    rw [hg i j hi hj, if_pos ⟨rfl, rfl⟩] at h1
    omega
  · rintro ⟨hz, hc⟩ k l hk hl
    have h1 := hz k l hk hl
    unfold dm at h1 ⊢
    rw [hg k l hk hl]
    split
    · rename_i e; obtain ⟨rfl, rfl⟩ := e; omega
    · exact h1
theorem md_cons (C : Nat → Nat → Int) : ∀ k, mdL C k = 0 :: (mdL C k).drop 1
  | 0 => rfl
  | k + 1 => by
    have h := md_cons C k
    rw [mdL]
    generalize lsB C (mdL C k) (k + 1) (k + 1) = x
    cases hl : mdL C k with
    | nil => have := mdL_len C k; rw [hl] at this; cases this
    | cons y t =>
      rw [hl] at h
      simp only [List.drop_succ_cons, List.drop_zero, List.cons.injEq, and_true] at h
      rw [h]; rfl
theorem nm_md (C : Nat → Nat → Int) {m k : Nat} (hk : k ≤ m) : nmB ((mdL C m).drop 1) k = mdV C k := by
  unfold nmB
  rw [← md_cons]
  exact mdL_get C m k hk
theorem md_mem {C : Nat → Nat → Int} {m : Nat} {x : Int} (hx : x ∈ (mdL C m).drop 1) : ∃ k, k < m ∧ x = mdV C (k + 1) := by
  obtain ⟨k, hk, rfl⟩ := List.mem_iff_getElem.1 hx
  have hl : ((mdL C m).drop 1).length = m := by rw [List.length_drop, mdL_len]; omega
  refine ⟨k, by omega, ?_⟩
  have h := nm_md C (m := m) (k := k + 1) (by omega)
  rw [← h]
  unfold nmB
  rw [List.getD_eq_getElem?_getD, List.getElem?_cons_succ, List.getElem?_eq_getElem hk]; rfl
theorem modR_none {m : Nat} {b : List Int} (h : Zv (m + 1) b) (hc : cls (m + 1) b = none) : modR (m : Int) b = ([], false) := by unfold modR; rw [closeR_nat h, hc]
theorem modR_some {m : Nat} {b c : List Int} (h : Zv (m + 1) b) (hc : cls (m + 1) b = some c) : modR (m : Int) b = ((mdL (gt (m + 1) c) m).drop 1, true) := by
  unfold modR; rw [closeR_nat h, hc, show ((m : Int) + 1).toNat = m + 1 by omega, Int.toNat_natCast]
/-- The model is in the zone. -/
theorem mod_holds {m : Nat} {b c : List Int} (h : Zv (m + 1) b) (hc : cls (m + 1) b = some c) : holdsR (m : Int) b ((mdL (gt (m + 1) c) m).drop 1) = true := by
  have hi := cls_is h hc
  refine (holdsR_nat h).2 ⟨by rw [List.length_drop, mdL_len]; omega, fun x hx => ?_, ?_⟩
  · obtain ⟨k, hk, rfl⟩ := md_mem hx
    exact mdV_bnd hi (by omega)
  · exact sat_congr (fun i hi2 => (nm_md _ (by omega)).symm) (hi.satD (mdV_Sat hi h.pos))
theorem impR_iff {m i j : Nat} {b : List Int} {C : Int} (h : Zv (m + 1) b) (hi : i ≤ m) (hj : j ≤ m) : impR (m : Int) b ((i : Int) - 1) ((j : Int) - 1) C = true ↔ ∀ u, Sat (m + 1) (dm (m + 1) b) u → u i - u j ≤ C := by
  have hk : ∀ q : Nat, q ≤ m → knB (m : Int) ((q : Int) - 1) = true := fun q hq => by unfold knB; exact decide_eq_true (by omega)
  unfold impR
  rw [zv_val h, hk i hi, hk j hj, closeR_nat h, show ((m : Int) + 1).toNat = m + 1 by omega, show ((i : Int) - 1 + 1).toNat = i by omega, show ((j : Int) - 1 + 1).toNat = j by omega]
  cases hc : cls (m + 1) b with
  | none =>
    exact ⟨fun _ u hu => absurd hu ((cls_none h).1 hc u), fun _ => rfl⟩
  | some c =>
    have hic := cls_is h hc
    simp only [Bool.true_and, Bool.and_self, decide_eq_true_eq]
    constructor
    · intro hle u hu
      have := hic.so u hu i j (by omega) (by omega)
      omega
    · intro hall
      have h1 := hall _ (hic.satD (hic.sat (j := j) (by omega)))
      have h2 := hic.dg j (by omega)
      omega
/-- What the law of Implies says. -/
theorem imp_facts {m i j : Nat} {z : List Int} {C : Int} (hz : Zv (m + 1) z) (hi : i ≤ m) (hj : j ≤ m) :
    ∃ l1 l2, addZ (m : Int) z ((i : Int) - 1) ((j : Int) - 1) C = (((m : Int), l1), .int .i64 0) ∧ addZ (m : Int) z ((j : Int) - 1) ((i : Int) - 1) (-C - 1) = (((m : Int), l2), .int .i64 0) ∧ Zv (m + 1) l1 ∧ Zv (m + 1) l2 ∧
      (impR (m : Int) z ((i : Int) - 1) ((j : Int) - 1) C = true → (modR (m : Int) l2).2 = false ∧ subR (m : Int) z (m : Int) l1 = true ∧ subR (m : Int) l1 (m : Int) z = true) ∧
      (impR (m : Int) z ((i : Int) - 1) ((j : Int) - 1) C = false → (modR (m : Int) l2).2 = true ∧ holdsR (m : Int) z (modR (m : Int) l2).1 = true ∧ holdsR (m : Int) l1 (modR (m : Int) l2).1 = false) := by
  have hk : ∀ q : Nat, q ≤ m → knB (m : Int) ((q : Int) - 1) = true := fun q hq => by unfold knB; exact decide_eq_true (by omega)
  have h1 := add_zv (C := C) hz (show i < m + 1 by omega) (show j < m + 1 by omega)
  have h2 := add_zv (C := -C - 1) hz (show j < m + 1 by omega) (show i < m + 1 by omega)
  have s1 := fun u => add_sat (C := C) hz (show i < m + 1 by omega) (show j < m + 1 by omega) u
  have s2 := fun u => add_sat (C := -C - 1) hz (show j < m + 1 by omega) (show i < m + 1 by omega) u
  refine ⟨_, _, addZ_in (zv_val hz) (by rw [hk i hi, hk j hj]; rfl), addZ_in (zv_val hz) (by rw [hk i hi, hk j hj]; rfl), h1, h2, fun himp => ?_, fun himp => ?_⟩
  · have hall := (impR_iff hz hi hj).1 himp
    have hnone : cls (m + 1) (addL (m + 1) z j i (-C - 1)) = none := (cls_none h2).2 fun u hu => by
      obtain ⟨a1, a2⟩ := (s2 u).1 hu
      have := hall u a1
      omega
    exact ⟨by rw [modR_none h2 hnone], (subR_iff hz h1).2 (sat_sub hz fun u hu => (s1 u).2 ⟨hu, hall u hu⟩), (subR_iff h1 hz).2 (sat_sub h1 fun u hu => ((s1 u).1 hu).1)⟩
  · have hn : ¬ ∀ u, Sat (m + 1) (dm (m + 1) z) u → u i - u j ≤ C := fun h => by
      rw [(impR_iff hz hi hj).2 h] at himp; cases himp
    cases hc : cls (m + 1) (addL (m + 1) z j i (-C - 1)) with
    | none =>
      exfalso
      refine hn fun u hu => ?_
      have h3 := (cls_none h2).1 hc u
      rw [s2] at h3
      by_cases hle : u i - u j ≤ C
      · exact hle
      · exact absurd ⟨hu, by omega⟩ h3
    | some c =>
      rw [modR_some h2 hc]
      have hh := mod_holds h2 hc
      obtain ⟨e1, e2, e3⟩ := (holdsR_nat h2).1 hh
      obtain ⟨a1, a2⟩ := (s2 _).1 e3
      refine ⟨rfl, (holdsR_nat hz).2 ⟨e1, e2, a1⟩, ?_⟩
      cases hb : holdsR (m : Int) (addL (m + 1) z i j C) ((mdL (gt (m + 1) c) m).drop 1) with
      | false => rfl
      | true =>
        have := ((s1 _).1 ((holdsR_nat h1).1 hb).2.2).2
        omega
theorem modR_len {N : Int} {b : List Int} : (modR N b).1.length ≤ 1000 := by
  unfold modR
  cases hc : closeR N b with
  | none => simp
  | some c =>
    have hzv : zvB N b = true := by
      cases h : zvB N b with
      | true => rfl
      | false => rw [closeR_bad h] at hc; cases hc
    obtain ⟨m, rfl, hm, _, _⟩ := zv_nat hzv
    simp only [List.length_drop, mdL_len]; omega
end Go.Proofs.Yteoddcamicmapaa
