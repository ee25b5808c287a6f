/- Vector clocks and what is before what, plainly. -/
import Derived.Test.YtgfnhkipoicmiaaVcM
namespace Go.Proofs.Ytgfnhkipoicmiaa

def at3 (c : List Int) (s : Nat) : Int := c.getD s 0
/-- The events of role r among the first i. -/
def cnt (R : Nat → Nat) (r i : Nat) : Nat := (List.range i).countP fun j => R j == r
theorem cnt_succ_eq {R : Nat → Nat} {r i : Nat} (h : R i = r) : cnt R r (i + 1) = cnt R r i + 1 := by
  unfold cnt; rw [List.range_succ, List.countP_append]; simp [h]
theorem cnt_succ_ne {R : Nat → Nat} {r i : Nat} (h : R i ≠ r) : cnt R r (i + 1) = cnt R r i := by
  unfold cnt; rw [List.range_succ, List.countP_append]; simp [h]
theorem cnt_le_succ (R : Nat → Nat) (r i : Nat) : cnt R r i ≤ cnt R r (i + 1) := by
  by_cases h : R i = r
  · rw [cnt_succ_eq h]; omega
  · rw [cnt_succ_ne h]; omega
theorem cnt_mono {R : Nat → Nat} {r i j : Nat} (h : i ≤ j) : cnt R r i ≤ cnt R r j := by
  obtain ⟨d, rfl⟩ : ∃ d, j = i + d := ⟨j - i, by omega⟩
  induction d with
  | zero => exact Nat.le_refl _
  | succ d ih => exact Nat.le_trans (ih (by omega)) (cnt_le_succ R r (i + d))
theorem cnt_le (R : Nat → Nat) (r i : Nat) : cnt R r i ≤ i := by
  unfold cnt
  exact Nat.le_trans List.countP_le_length (by simp)
theorem cnt_none {R : Nat → Nat} {r i : Nat} (h : ∀ q, q < i → R q ≠ r) : cnt R r i = 0 := by
  unfold cnt
  rw [List.countP_eq_zero]
  intro a ha
  have := h a (by simpa using ha)
  simpa using this
theorem cnt_last {R : Nat → Nat} {r p i : Nat} (hp : p < i) (hl : ∀ q, p < q → q < i → R q ≠ r) : cnt R r i = cnt R r (p + 1) := by
  obtain ⟨d, rfl⟩ : ∃ d, i = p + 1 + d := ⟨i - (p + 1), by omega⟩
  induction d with
  | zero => rfl
  | succ d ih =>
    rw [show p + 1 + (d + 1) = (p + 1 + d) + 1 by omega, cnt_succ_ne (hl _ (by omega) (by omega))]
    exact ih (by omega) fun q h1 h2 => hl q h1 (by omega)
/-- Event k is before event i, as the clocks say. -/
def Mb (R : Nat → Nat) (C : Nat → List Int) (i k : Nat) : Prop := k < i ∧ at3 (C k) (R k) ≤ at3 (C i) (R k)
instance (R : Nat → Nat) (C : Nat → List Int) (i k : Nat) : Decidable (Mb R C i k) := by unfold Mb; infer_instance
/-- The clocks of the first i events. -/
structure CI (R : Nat → Nat) (C : Nat → List Int) (i : Nat) : Prop where
  rng : ∀ j, R j < 3
  len : ∀ j, j < i → (C j).length = 3
  own : ∀ j, j < i → at3 (C j) (R j) = (cnt R (R j) (j + 1) : Int)
  bnd : ∀ j, j < i → ∀ r, r < 3 → 0 ≤ at3 (C j) r ∧ at3 (C j) r ≤ (cnt R r (j + 1) : Int)
  mon : ∀ j, j < i → ∀ k, Mb R C j k → ∀ r, r < 3 → at3 (C k) r ≤ at3 (C j) r
/-- The clock of role r behind the first i events. -/
def IsNow (R : Nat → Nat) (C : Nat → List Int) (i r : Nat) (c : List Int) : Prop :=
  (∃ p, p < i ∧ R p = r ∧ (∀ q, p < q → q < i → R q ≠ r) ∧ c = C p) ∨ ((∀ q, q < i → R q ≠ r) ∧ c = [0, 0, 0])
theorem IsNow.len {R : Nat → Nat} {C : Nat → List Int} {i r : Nat} {c : List Int} (h : IsNow R C i r c) (hc : CI R C i) : c.length = 3 := by
  rcases h with ⟨p, hp, _, _, rfl⟩ | ⟨_, rfl⟩
  · exact hc.len p hp
  · rfl
theorem IsNow.bnd {R : Nat → Nat} {C : Nat → List Int} {i r : Nat} {c : List Int} (h : IsNow R C i r c) (hc : CI R C i) (s : Nat) (hs : s < 3) : 0 ≤ at3 c s ∧ at3 c s ≤ (cnt R s i : Int) := by
  rcases h with ⟨p, hp, _, _, rfl⟩ | ⟨_, rfl⟩
  · have h1 := hc.bnd p hp s hs
    have h2 := cnt_mono (R := R) (r := s) (show p + 1 ≤ i by omega)
    omega
  · have : at3 [0, 0, 0] s = 0 := by
      match s, hs with
      | 0, _ => rfl
      | 1, _ => rfl
      | 2, _ => rfl
    omega
theorem IsNow.own {R : Nat → Nat} {C : Nat → List Int} {i r : Nat} {c : List Int} (h : IsNow R C i r c) (hc : CI R C i) (hr : r < 3) : at3 c r = (cnt R r i : Int) := by
  rcases h with ⟨p, hp, h1, h2, rfl⟩ | ⟨h1, rfl⟩
  · have := hc.own p hp
    rw [h1] at this
    rw [this, cnt_last hp h2]
  · rw [cnt_none h1]
    match r, hr with
    | 0, _ => rfl
    | 1, _ => rfl
    | 2, _ => rfl
/-- The direct predecessors of event i: those of its role, and the message's. -/
def Dp (R : Nat → Nat) (i : Nat) (m : Option Nat) (k : Nat) : Prop := (k < i ∧ R k = R i) ∨ m = some k
/-- The new clock: of the role's clock, and of the message's. -/
structure New (R : Nat → Nat) (C : Nat → List Int) (i : Nat) (m : Option Nat) (nw : List Int) : Prop where
  now : IsNow R C i (R i) nw
  msg : ∀ k, m = some k → k < i
  len : (C i).length = 3
  own : at3 (C i) (R i) = at3 nw (R i) + 1
  ge : ∀ s, s < 3 → at3 nw s ≤ at3 (C i) s
  gem : ∀ k, m = some k → ∀ s, s < 3 → at3 (C k) s ≤ at3 (C i) s
  le : ∀ s, s < 3 → s ≠ R i → at3 (C i) s ≤ at3 nw s ∨ ∃ k, m = some k ∧ at3 (C i) s ≤ at3 (C k) s
section
variable {R : Nat → Nat} {C : Nat → List Int} {i : Nat} {m : Option Nat} {nw : List Int}
/-- What is before event i is a direct predecessor, or before one. -/
theorem New.comp (hc : CI R C i) (h : New R C i m nw) {j : Nat} (hj : Mb R C i j) : Dp R i m j ∨ ∃ p, Dp R i m p ∧ p < i ∧ Mb R C p j := by
  obtain ⟨hji, hle⟩ := hj
  by_cases hs : R j = R i
  · exact .inl (.inl ⟨hji, hs⟩)
  · have hjo := hc.own j hji
    have key : ∀ p, p < i → j ≠ p → at3 (C j) (R j) ≤ at3 (C p) (R j) → Mb R C p j := by
      intro p hp hne h1
      refine ⟨?_, h1⟩
      apply Nat.lt_of_not_le
      intro h2
      have h3 := (hc.bnd p hp (R j) (hc.rng j)).2
      have h4 := cnt_mono (R := R) (r := R j) (show p + 1 ≤ j by omega)
      have h5 : cnt R (R j) (j + 1) = cnt R (R j) j + 1 := cnt_succ_eq rfl
      omega
    rcases h.le (R j) (hc.rng j) hs with h1 | ⟨k, hk, h1⟩
    · rcases h.now with ⟨p, hp, hpr, _, hnp⟩ | ⟨_, hz⟩
      · rw [hnp] at h1
        exact .inr ⟨p, .inl ⟨hp, hpr⟩, hp, key p hp (fun e => hs (by rw [e]; exact hpr)) (by omega)⟩
      · exfalso
        have h2 : at3 nw (R j) = 0 := by
          rw [hz]
          match R j, hc.rng j with
          | 0, _ => rfl
          | 1, _ => rfl
          | 2, _ => rfl
        have h5 : cnt R (R j) (j + 1) = cnt R (R j) j + 1 := cnt_succ_eq rfl
        omega
    · have hki := h.msg k hk
      by_cases e : j = k
      · exact .inl (.inr (by rw [e]; exact hk))
      · exact .inr ⟨k, .inr hk, hki, key k hki e (by omega)⟩
theorem New.dp_le (hc : CI R C i) (h : New R C i m nw) {k : Nat} (hk : Dp R i m k) : ∀ s, s < 3 → at3 (C k) s ≤ at3 (C i) s := by
  rcases hk with ⟨hki, hr⟩ | hk
  · rcases h.now with ⟨p, hp, hpr, hl, hnp⟩ | ⟨hn, _⟩
    · intro s hs
      have h1 := h.ge s hs
      rw [hnp] at h1
      by_cases e : k = p
      · rw [e]; exact h1
      · have hkp : k < p := by
          apply Nat.lt_of_not_le
          intro h2
          exact hl k (by omega) hki hr
        have h3 : Mb R C p k := by
          refine ⟨hkp, ?_⟩
          have e1 := hc.own k hki
          have e2 := hc.own p hp
          rw [hr] at e1 ⊢
          rw [hpr] at e2
          rw [e1, e2]
          have := cnt_mono (R := R) (r := R i) (show k + 1 ≤ p + 1 by omega)
          omega
        have h4 := hc.mon p hp k h3 s hs
        omega
    · exact absurd hr (hn k hki)
  · exact h.gem k hk
theorem New.ci (hc : CI R C i) (h : New R C i m nw) : CI R C (i + 1) := by
  have hmon : ∀ k, Mb R C i k → ∀ r, r < 3 → at3 (C k) r ≤ at3 (C i) r := by
    intro k hk r hr
    rcases h.comp hc hk with h1 | ⟨p, h1, hp, h2⟩
    · exact h.dp_le hc h1 r hr
    · exact Int.le_trans (hc.mon p hp k h2 r hr) (h.dp_le hc h1 r hr)
  have hown : at3 (C i) (R i) = (cnt R (R i) (i + 1) : Int) := by
    rw [h.own, h.now.own hc (hc.rng i), cnt_succ_eq rfl]; omega
  refine ⟨hc.rng, fun j hj => ?_, fun j hj => ?_, fun j hj r hr => ?_, fun j hj k hk r hr => ?_⟩
  · by_cases e : j = i
    · rw [e]; exact h.len
    · exact hc.len j (by omega)
  · by_cases e : j = i
    · rw [e]; exact hown
    · exact hc.own j (by omega)
  · by_cases e : j = i
    · subst e
      have h1 := h.now.bnd hc r hr
      have h2 := h.ge r hr
      refine ⟨by omega, ?_⟩
      by_cases e : r = R j
      · rw [e]; omega
      · rw [cnt_succ_ne (fun h => e h.symm)]
        rcases h.le r hr e with h3 | ⟨k, hk, h3⟩
        · omega
        · have hk2 := h.msg k hk
          have h4 := (hc.bnd k hk2 r hr).2
          have h5 := cnt_mono (R := R) (r := r) (show k + 1 ≤ j by omega)
          omega
    · exact hc.bnd j (by omega) r hr
  · by_cases e : j = i
    · subst e; exact hmon k hk r hr
    · exact hc.mon j (by omega) k hk r hr
end
theorem Mb.trans {R : Nat → Nat} {C : Nat → List Int} {n i k j : Nat} (hc : CI R C n) (hi : i < n) (h1 : Mb R C i k) (h2 : Mb R C k j) : Mb R C i j :=
  ⟨by have := h1.1; have := h2.1; omega, Int.le_trans h2.2 (hc.mon i hi k h1 (R j) (hc.rng j))⟩
theorem Dp.mb {R : Nat → Nat} {C : Nat → List Int} {i : Nat} {m : Option Nat} {nw : List Int} (hc : CI R C i) (h : New R C i m nw) {k : Nat} (hk : Dp R i m k) : Mb R C i k :=
  ⟨by rcases hk with h1 | h1; exact h1.1; exact h.msg k h1, h.dp_le hc hk (R k) (hc.rng k)⟩
theorem at3_am {a b : List Int} (ha : a.length = 3) (hb : b.length = 3) : amB a b = true ↔ ∀ r, r < 3 → at3 a r ≤ at3 b r := by
  rw [amB_iff]
  constructor
  · rintro ⟨_, h⟩ r hr; exact h r (by omega)
  · intro h; exact ⟨by omega, fun i hi => h i (by omega)⟩
/-- For k ahead of i, the clocks say before exactly if k is before i, and never the other way. -/
theorem before_mb {R : Nat → Nat} {C : Nat → List Int} {n i k : Nat} (hc : CI R C n) (hi : i < n) (hk : k < i) : bfB (C k) (C i) = decide (Mb R C i k) ∧ bfB (C i) (C k) = false := by
  have hno : amB (C i) (C k) = false := by
    cases h : amB (C i) (C k) with
    | false => rfl
    | true =>
      have h1 := (at3_am (hc.len i hi) (hc.len k (by omega))).1 h (R i) (hc.rng i)
      have h2 := hc.own i hi
      have h3 := (hc.bnd k (by omega) (R i) (hc.rng i)).2
      have h4 := cnt_mono (R := R) (r := R i) (show k + 1 ≤ i by omega)
      have h5 : cnt R (R i) (i + 1) = cnt R (R i) i + 1 := cnt_succ_eq rfl
      omega
  refine ⟨?_, by unfold bfB; rw [hno]; rfl⟩
  unfold bfB
  rw [hno, Bool.not_false, Bool.and_true, Bool.eq_iff_iff, decide_eq_true_iff, at3_am (hc.len k (by omega)) (hc.len i hi)]
  constructor
  · intro h; exact ⟨hk, h (R k) (hc.rng k)⟩
  · intro h; exact hc.mon i hi k h
theorem at3_set {c : List Int} {r s : Nat} (hl : c.length = 3) (hr : r < 3) (x : Int) : at3 (c.set r x) s = if s = r then x else at3 c s := by
  unfold at3
  rw [List.getD_eq_getElem?_getD, List.getD_eq_getElem?_getD]
  by_cases e : s = r
  · subst e
    rw [if_pos rfl, List.getElem?_set_self (by omega)]; rfl
  · rw [if_neg e, List.getElem?_set_ne (fun h => e h.symm)]
theorem at3_zip {a b : List Int} {s : Nat} (ha : a.length = 3) (hb : b.length = 3) (hs : s < 3) : at3 (List.zipWith mx a b) s = mx (at3 a s) (at3 b s) := by
  unfold at3
  simp only [List.getD_eq_getElem?_getD]
  rw [List.getElem?_eq_getElem (by rw [List.length_zipWith]; omega), List.getElem?_eq_getElem (by omega), List.getElem?_eq_getElem (by omega), List.getElem_zipWith]; rfl
theorem mx_ge {x y : Int} : x ≤ mx x y ∧ y ≤ mx x y ∧ (mx x y = x ∨ mx x y = y) := by unfold mx; split <;> omega
def Cf (cs : List (List Int)) (j : Nat) : List Int := cs.getD j []
theorem cf_old {cs : List (List Int)} {c : List Int} {j : Nat} (h : j < cs.length) : Cf (cs ++ [c]) j = Cf cs j := by
  unfold Cf
  rw [List.getD_eq_getElem?_getD, List.getElem?_append_left h, ← List.getD_eq_getElem?_getD]
theorem cf_new (cs : List (List Int)) (c : List Int) : Cf (cs ++ [c]) cs.length = c := by
  unfold Cf
  rw [List.getD_eq_getElem?_getD, List.getElem?_append_right (Nat.le_refl _), Nat.sub_self]; rfl
theorem mb_old {R : Nat → Nat} {cs : List (List Int)} {c : List Int} {i k : Nat} (hi : i < cs.length) : Mb R (Cf (cs ++ [c])) i k ↔ Mb R (Cf cs) i k := by
  unfold Mb
  constructor
  · rintro ⟨h1, h2⟩; rw [cf_old hi, cf_old (by omega)] at h2; exact ⟨h1, h2⟩
  · rintro ⟨h1, h2⟩; rw [cf_old hi, cf_old (by omega)]; exact ⟨h1, h2⟩
theorem ci_old {R : Nat → Nat} {cs : List (List Int)} {c : List Int} (h : CI R (Cf cs) cs.length) : CI R (Cf (cs ++ [c])) cs.length := by
  refine ⟨h.rng, fun j hj => by rw [cf_old hj]; exact h.len j hj, fun j hj => by rw [cf_old hj]; exact h.own j hj, fun j hj r hr => by rw [cf_old hj]; exact h.bnd j hj r hr, fun j hj k hk r hr => ?_⟩
  have h1 := (mb_old hj).1 hk
  rw [cf_old hj, cf_old (by have := hk.1; omega)]
  exact h.mon j hj k h1 r hr
theorem now_old {R : Nat → Nat} {cs : List (List Int)} {c nw : List Int} {r : Nat} (h : IsNow R (Cf cs) cs.length r nw) : IsNow R (Cf (cs ++ [c])) cs.length r nw := by
  rcases h with ⟨p, h1, h2, h3, h4⟩ | h
  · exact .inl ⟨p, h1, h2, h3, by rw [cf_old h1]; exact h4⟩
  · exact .inr h
theorem new_none {R : Nat → Nat} {cs : List (List Int)} {nw : List Int} (hc : CI R (Cf cs) cs.length) (hn : IsNow R (Cf cs) cs.length (R cs.length) nw) :
    New R (Cf (cs ++ [nw.set (R cs.length) (at3 nw (R cs.length) + 1)])) cs.length none nw := by
  have hl := hn.len hc
  have hr := hc.rng cs.length
  refine ⟨now_old hn, (fun k h => by cases h), by rw [cf_new, List.length_set]; exact hl, by rw [cf_new, at3_set hl hr, if_pos rfl], fun s hs => ?_, (fun k h => by cases h), fun s hs hne => ?_⟩
  · rw [cf_new, at3_set hl hr]
    split
    · rename_i e; rw [e]; omega
    · exact Int.le_refl _
  · rw [cf_new, at3_set hl hr, if_neg hne]
    exact .inl (Int.le_refl _)
theorem new_some {R : Nat → Nat} {cs : List (List Int)} {nw : List Int} {k : Nat} (hc : CI R (Cf cs) cs.length) (hn : IsNow R (Cf cs) cs.length (R cs.length) nw) (hk : k < cs.length) :
    New R (Cf (cs ++ [(List.zipWith mx nw (Cf cs k)).set (R cs.length) (at3 (List.zipWith mx nw (Cf cs k)) (R cs.length) + 1)])) cs.length (some k) nw := by
  have hl := hn.len hc
  have hlk := hc.len k hk
  have hr := hc.rng cs.length
  have hlz : (List.zipWith mx nw (Cf cs k)).length = 3 := by rw [List.length_zipWith]; omega
  have hown := hn.own hc hr
  have hbk := hc.bnd k hk (R cs.length) hr
  have hcm := cnt_mono (R := R) (r := R cs.length) (show k + 1 ≤ cs.length by omega)
  have hmr : at3 (List.zipWith mx nw (Cf cs k)) (R cs.length) = at3 nw (R cs.length) := by
    rw [at3_zip hl hlk hr]
    have := mx_ge (x := at3 nw (R cs.length)) (y := at3 (Cf cs k) (R cs.length))
    omega
  refine ⟨now_old hn, (fun q h => by cases h; exact hk), by rw [cf_new, List.length_set]; exact hlz, by rw [cf_new, at3_set hlz hr, if_pos rfl, hmr], fun s hs => ?_, fun q h s hs => ?_, fun s hs hne => ?_⟩
  · rw [cf_new, at3_set hlz hr]
    split
    · rename_i e; rw [e, hmr]; omega
    · rw [at3_zip hl hlk hs]; exact mx_ge.1
  · cases h
    rw [cf_new, at3_set hlz hr, cf_old hk]
    split
    · rename_i e
      rw [e, hmr]; omega
    · rw [at3_zip hl hlk hs]; exact mx_ge.2.1
  · rw [cf_new, at3_set hlz hr, if_neg hne, at3_zip hl hlk hs]
    rcases (mx_ge (x := at3 nw s) (y := at3 (Cf cs k) s)).2.2 with h | h
    · rw [h]; exact .inl (Int.le_refl _)
    · rw [h]; exact .inr ⟨k, rfl, by rw [cf_old hk]; exact Int.le_refl _⟩
/-- The roles' clocks behind the new event. -/
theorem now_next {R : Nat → Nat} {cs : List (List Int)} {c : List Int} {r : Nat} {nw : List Int} (h : IsNow R (Cf cs) cs.length r nw) (hne : r ≠ R cs.length) : IsNow R (Cf (cs ++ [c])) (cs.length + 1) r nw := by
  rcases h with ⟨p, h1, h2, h3, h4⟩ | ⟨h1, h2⟩
  · refine .inl ⟨p, by omega, h2, fun q hq hq2 => ?_, by rw [cf_old h1]; exact h4⟩
    by_cases e : q = cs.length
    · rw [e]; exact fun e2 => hne e2.symm
    · exact h3 q hq (by omega)
  · refine .inr ⟨fun q hq => ?_, h2⟩
    by_cases e : q = cs.length
    · rw [e]; exact fun e2 => hne e2.symm
    · exact h1 q (by omega)
theorem now_self (R : Nat → Nat) (cs : List (List Int)) (c : List Int) : IsNow R (Cf (cs ++ [c])) (cs.length + 1) (R cs.length) c :=
  .inl ⟨cs.length, by omega, rfl, fun q h1 h2 => by omega, (cf_new cs c).symm⟩
end Go.Proofs.Ytgfnhkipoicmiaa
