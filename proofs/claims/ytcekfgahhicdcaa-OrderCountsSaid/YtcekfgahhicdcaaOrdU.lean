/- Layer 8: events that are not placed yet, and the next one. -/
import Derived.Test.YtcekfgahhicdcaaOrdE
namespace Go.Proofs.Ytcekfgahhicdcaa
open Go.RowKit

/-- How many events are not placed. -/
def Un (n s : Nat) : Nat := (List.range n).countP fun i => !s.testBit i
theorem Un_succ (n s : Nat) : Un (n + 1) s = Un n s + (if s.testBit n then 0 else 1) := by
  unfold Un
  rw [List.range_succ, List.countP_append]
  cases h : s.testBit n <;> simp [h]
theorem or_bit (s e i : Nat) : (s ||| 2 ^ e).testBit i = (s.testBit i || decide (e = i)) := by rw [Nat.testBit_or, Nat.testBit_two_pow]
theorem Un_same {n s t : Nat} (h : ∀ i, i < n → s.testBit i = t.testBit i) : Un n s = Un n t := by
  unfold Un
  exact List.countP_congr fun i hi => by rw [h i (List.mem_range.1 hi)]
theorem Un_add {e s : Nat} : ∀ {n : Nat}, e < n → s.testBit e = false → Un n (s ||| 2 ^ e) + 1 = Un n s
  | 0, h, _ => by omega
  | n + 1, h, hs => by
    rw [Un_succ, Un_succ, or_bit]
    by_cases he : e = n
    · subst he
      rw [Un_same (t := s) (fun i hi => by rw [or_bit, decide_eq_false (by omega), Bool.or_false]), hs]
      simp
    · have ih := Un_add (n := n) (by omega) hs
      rw [decide_eq_false he, Bool.or_false]
      omega
theorem Un_zero {s : Nat} : ∀ {n : Nat}, Un n s = 0 → ∀ i, i < n → s.testBit i = true
  | 0, _, i, hi => by omega
  | n + 1, h, i, hi => by
    rw [Un_succ] at h
    by_cases e : i = n
    · subst e
      cases hb : s.testBit i
      · rw [hb] at h; simp at h
      · rfl
    · exact Un_zero (n := n) (by omega) i (by omega)
theorem Un_pos {s n : Nat} (h : Un n s ≠ 0) : ∃ i, i < n ∧ s.testBit i = false := by
  refine Classical.byContradiction fun hno => h ?_
  unfold Un
  rw [List.countP_eq_zero]
  intro i hi hb
  exact hno ⟨i, List.mem_range.1 hi, by simpa using hb⟩
theorem Un_all : ∀ n : Nat, Un n 0 = n
  | 0 => rfl
  | n + 1 => by rw [Un_succ, Un_all n, Nat.zero_testBit]; simp
theorem full_of {s n : Nat} (hs : s < 2 ^ n) (h : Un n s = 0) : s = 2 ^ n - 1 := by
  refine Nat.eq_of_testBit_eq fun i => ?_
  rw [Nat.testBit_two_pow_sub_one]
  by_cases hi : i < n
  · rw [Un_zero h i hi, decide_eq_true hi]
  · rw [decide_eq_false hi, Nat.testBit_lt_two_pow (Nat.lt_of_lt_of_le hs (Nat.pow_le_pow_right (by decide) (by omega)))]
theorem Un_full (n : Nat) : Un n (2 ^ n - 1) = 0 := by
  unfold Un
  rw [List.countP_eq_zero]
  intro i hi
  rw [Nat.testBit_two_pow_sub_one, decide_eq_true (List.mem_range.1 hi)]
  decide
theorem not_full {s n : Nat} (h : Un n s ≠ 0) : s ≠ 2 ^ n - 1 := fun e => h (by rw [e]; exact Un_full n)
theorem or_lt {s n e : Nat} (hs : s < 2 ^ n) (he : e < n) : s ||| 2 ^ e < 2 ^ n := Nat.or_lt_two_pow hs (Nat.pow_lt_pow_right (by decide) he)
theorem sdiff_zero {a b : Nat} : sdiff a b = 0 ↔ ∀ i, a.testBit i = true → b.testBit i = true := by
  constructor
  · intro h i hi
    have := congrArg (fun x => x.testBit i) h
    simp only [sdiff_bit, hi, Nat.zero_testBit, Bool.true_and] at this
    simpa using this
  · intro h
    refine Nat.eq_of_testBit_eq fun i => ?_
    rw [sdiff_bit, Nat.zero_testBit]
    cases hi : a.testBit i
    · rfl
    · rw [h i hi]; rfl
theorem rdy_iff {N : Int} {es : List (Int × Int)} {s e : Nat} (he : e < N.toNat) : rdyW (psts N es) s e = true ↔ s.testBit e = false ∧ ∀ i, i < N.toNat → Bf N es i e = true → s.testBit i = true := by
  unfold rdyW
  rw [psts_at he, Bool.and_eq_true, decide_eq_true_iff, sdiff_zero]
  constructor
  · rintro ⟨h1, h2⟩
    exact ⟨by simpa using h1, fun i hi hb => h2 i (by rw [pst_bit hi]; exact hb)⟩
  · rintro ⟨h1, h2⟩
    refine ⟨by rw [h1]; rfl, fun i hi => ?_⟩
    rw [pst_bit', Bool.and_eq_true, decide_eq_true_iff] at hi
    exact h2 i hi.1 hi.2
theorem pst_less {N : Int} {es : List (Int × Int)} (hc : acyc N es = true) {x y : Nat} (hy : y < N.toNat) (h : Bf N es y x = true) : pst N es y < pst N es x := by
  have h1 : pst N es y = pst N es y &&& pst N es x := by
    refine Nat.eq_of_testBit_eq fun i => ?_
    rw [Nat.testBit_and, pst_bit', pst_bit']
    cases hb : Bf N es i y
    · simp
    · rw [Bf.trans hy hb h]; cases decide (i < N.toNat) <;> rfl
  have h2 : pst N es y ≤ pst N es x := by rw [h1]; exact Nat.and_le_right
  rcases Nat.lt_or_eq_of_le h2 with h3 | h3
  · exact h3
  · have h4 := congrArg (fun z => z.testBit y) h3
    simp only [pst_bit hy, h, Bf.irr hc hy] at h4
    cases h4
/-- Whatever is placed in front, one of the others can stand next. -/
theorem ex_ready {N : Int} {es : List (Int × Int)} (hc : acyc N es = true) (s : Nat) : ∀ (m x : Nat), pst N es x ≤ m → x < N.toNat → s.testBit x = false → ∃ e, e < N.toNat ∧ rdyW (psts N es) s e = true := by
  intro m
  induction m with
  | zero =>
    intro x hm hx hs
    refine ⟨x, hx, (rdy_iff hx).2 ⟨hs, fun i hi hb => ?_⟩⟩
    have := pst_less hc hi hb
    omega
  | succ m ih =>
    intro x hm hx hs
    by_cases h : ∃ y, y < N.toNat ∧ Bf N es y x = true ∧ s.testBit y = false
    · obtain ⟨y, hy, hb, hsy⟩ := h
      have := pst_less hc hy hb
      exact ih y (by omega) hy hsy
    · refine ⟨x, hx, (rdy_iff hx).2 ⟨hs, fun i hi hb => ?_⟩⟩
      cases hsi : s.testBit i
      · exact absurd ⟨i, hi, hb, hsi⟩ h
      · rfl
theorem ex_next {N : Int} {es : List (Int × Int)} (hc : acyc N es = true) {s : Nat} (h : Un N.toNat s ≠ 0) : ∃ e, e < N.toNat ∧ rdyW (psts N es) s e = true := by
  obtain ⟨x, hx, hs⟩ := Un_pos h
  exact ex_ready hc s _ x (Nat.le_refl _) hx hs
/-- The next event is the first that is ready. -/
theorem nx_is {N : Int} {es : List (Int × Int)} (hc : acyc N es = true) {s : Nat} (h : Un N.toNat s ≠ 0) : nxW (psts N es) s < N.toNat ∧ rdyW (psts N es) s (nxW (psts N es) s) = true ∧ ∀ j, j < nxW (psts N es) s → rdyW (psts N es) s j = false := by
  obtain ⟨e, he, hr⟩ := ex_next hc h
  unfold nxW
  rw [psts_len]
  cases hf : (List.range N.toNat).find? (rdyW (psts N es) s) with
  | none =>
    rw [List.find?_eq_none] at hf
    exact absurd hr (hf e (List.mem_range.2 he))
  | some i =>
    rw [List.find?_range_eq_some] at hf
    obtain ⟨h1, h2, h3⟩ := hf
    exact ⟨List.mem_range.1 h2, h1, fun j hj => by simpa using h3 j hj⟩
theorem rdy_free {ps : List Nat} {s e : Nat} (h : rdyW ps s e = true) : s.testBit e = false := by
  unfold rdyW at h
  rw [Bool.and_eq_true] at h
  simpa using h.1
theorem li_facts {N : Int} {es : List (Int × Int)} (hc : acyc N es = true) : ∀ k, k ≤ N.toNat → (liW (psts N es) k).1.length = k ∧ (liW (psts N es) k).2 < 2 ^ N.toNat ∧ Un N.toNat (liW (psts N es) k).2 + k = N.toNat ∧ ∀ x ∈ (liW (psts N es) k).1, x < N.toNat
  | 0, _ => ⟨rfl, Nat.two_pow_pos _, by simp only [liW]; rw [Un_all]; rfl, by simp [liW]⟩
  | k + 1, hk => by
    obtain ⟨h1, h2, h3, h4⟩ := li_facts hc k (by omega)
    obtain ⟨g1, g2, _⟩ := nx_is hc (s := (liW (psts N es) k).2) (by omega)
    have g4 := Un_add g1 (rdy_free g2)
    simp only [liW]
    refine ⟨by simp [h1], or_lt h2 g1, by omega, fun x hx => ?_⟩
    rcases List.mem_append.1 hx with hx | hx
    · exact h4 x hx
    · rw [List.mem_singleton] at hx; rw [hx]; exact g1
end Go.Proofs.Ytcekfgahhicdcaa
