/- Rounds and chains: the height of an order as the reference counts it: plain facts. -/
import Derived.Test.YtcekfgahhicdcaaOrdHt
import Derived.Test.YtcekfgahhicdcaaOrdFr
namespace Go.Proofs.Ytcekfgahhicdcaa
open Go.RowKit

section
variable {n : Nat} {es : List (Int × Int)}
theorem rdy_pre {s e : Nat} (he : e < n) : rdyW (psts (n : Int) es) s e = true ↔ s.testBit e = false ∧ ∀ j, j < n → Bf n es j e = true → s.testBit j = true := by
  rw [← okF_rdy he, okF_iff]
theorem hS_step {e k : Nat} : (hS n es (k + 1)).testBit e = ((hS n es k).testBit e || (decide (e < n) && rdyW (psts (n : Int) es) (hS n es k) e)) := by
  rw [hS, nxS_bit]
theorem hS_mono {e : Nat} : ∀ {a b : Nat}, a ≤ b → (hS n es a).testBit e = true → (hS n es b).testBit e = true
  | a, 0, h, he => by obtain rfl : a = 0 := by omega
                      exact he
  | a, b + 1, h, he => by
    by_cases hab : a = b + 1
    · subst hab; exact he
    · rw [hS_step, hS_mono (a := a) (b := b) (by omega) he]; rfl
theorem hS_in {e : Nat} (he : e < n) : ∀ k, (hS n es (k + 1)).testBit e = true ↔ ∀ j, j < n → Bf n es j e = true → (hS n es k).testBit j = true
  | 0 => by
    rw [hS_step]
    have h0 : (hS n es 0).testBit e = false := by rw [hS, Nat.zero_testBit]
    rw [h0, Bool.false_or, decide_eq_true he, Bool.true_and, rdy_pre he, h0]
    simp
  | k + 1 => by
    rw [hS_step]
    constructor
    · intro h j hj hb
      rw [Bool.or_eq_true] at h
      rcases h with h | h
      · exact hS_mono (Nat.le_succ k) ((hS_in he k).1 h j hj hb)
      · rw [Bool.and_eq_true] at h
        exact ((rdy_pre he).1 h.2).2 j hj hb
    · intro h
      cases hb : (hS n es (k + 1)).testBit e with
      | true => rfl
      | false =>
        rw [Bool.false_or, decide_eq_true he, Bool.true_and]
        exact (rdy_pre he).2 ⟨hb, h⟩
/-- The round in which e is placed. -/
def RK (n : Nat) (es : List (Int × Int)) (e h : Nat) : Prop := 1 ≤ h ∧ (hS n es h).testBit e = true ∧ (hS n es (h - 1)).testBit e = false
/-- What is left of a round's computation: behind the first k events of the list. -/
structure Par (n : Nat) (es : List (Int × Int)) (l : Nat → Nat) (e k v : Nat) : Prop where
  one : 1 ≤ v
  up : ∀ m, m < k → Bf n es (l m) e = true → (hS n es (v - 1)).testBit (l m) = true
  low : v = 1 ∨ ∃ m, m < k ∧ Bf n es (l m) e = true ∧ (hS n es (v - 2)).testBit (l m) = false
theorem Par.start (n : Nat) (es : List (Int × Int)) (l : Nat → Nat) (e : Nat) : Par n es l e 0 1 := ⟨Nat.le_refl _, fun m h => absurd h (Nat.not_lt_zero m), .inl rfl⟩
theorem Par.skip {l : Nat → Nat} {e k v : Nat} (h : Par n es l e k v) (hb : Bf n es (l k) e = false) : Par n es l e (k + 1) v := by
  refine ⟨h.one, fun m hm hm2 => ?_, ?_⟩
  · by_cases hk : m = k
    · subst hk; rw [hb] at hm2; cases hm2
    · exact h.up m (by omega) hm2
  · rcases h.low with h1 | ⟨m, h1, h2, h3⟩
    · exact .inl h1
    · exact .inr ⟨m, by omega, h2, h3⟩
theorem Par.next {l : Nat → Nat} {e k v r : Nat} (h : Par n es l e k v) (hb : Bf n es (l k) e = true) (hr : RK n es (l k) r) : Par n es l e (k + 1) (max v (r + 1)) := by
  obtain ⟨r1, r2, r3⟩ := hr
  refine ⟨by have := h.one; omega, fun m hm hm2 => ?_, ?_⟩
  · by_cases hk : m = k
    · subst hk; exact hS_mono (by omega) r2
    · exact hS_mono (a := v - 1) (by omega) (h.up m (by omega) hm2)
  · by_cases hv : v ≤ r + 1
    · refine .inr ⟨k, Nat.lt_succ_self k, hb, ?_⟩
      rw [show max v (r + 1) - 2 = r - 1 by omega]; exact r3
    · rw [show max v (r + 1) = v by omega]
      rcases h.low with h1 | ⟨m, h1, h2, h3⟩
      · exact .inl h1
      · exact .inr ⟨m, by omega, h2, h3⟩
theorem Par.done {l : Nat → Nat} {e k v : Nat} (h : Par n es l e k v) (he : e < n) (hl : ∀ m, m < k → l m < n) (hp : ∀ j, j < n → Bf n es j e = true → ∃ m, m < k ∧ l m = j) : RK n es e v := by
  have h1 := h.one
  refine ⟨h1, ?_, ?_⟩
  · obtain ⟨u, rfl⟩ : ∃ u, v = u + 1 := ⟨v - 1, by omega⟩
    rw [hS_in he]
    intro j hj hb
    obtain ⟨m, hm, rfl⟩ := hp j hj hb
    exact h.up m hm hb
  · rcases h.low with h2 | ⟨m, h2, h3, h4⟩
    · subst h2; rw [hS, Nat.zero_testBit]
    · cases hq : (hS n es (v - 1)).testBit e with
      | false => rfl
      | true =>
        exfalso
        by_cases hv1 : v = 1
        · subst hv1; rw [hS, Nat.zero_testBit] at hq; cases hq
        · obtain ⟨u, rfl⟩ : ∃ u, v = u + 2 := ⟨v - 2, by omega⟩
          have := (hS_in he u).1 hq (l m) (hl m h2) h3
          rw [show u + 2 - 2 = u by omega] at h4
          rw [h4] at this; cases this
theorem RK_le {e h : Nat} (hr : RK n es e h) {k : Nat} (hk : (hS n es k).testBit e = true) : h ≤ k := by
  refine Classical.byContradiction fun hc => ?_
  have := hS_mono (n := n) (es := es) (a := k) (b := h - 1) (by omega) hk
  rw [hr.2.2] at this; cases this
/-- The highest so far. -/
structure Mst (n : Nat) (es : List (Int × Int)) (l : Nat → Nat) (k v : Nat) : Prop where
  up : ∀ m, m < k → (hS n es v).testBit (l m) = true
  low : v = 0 ∨ ∃ m, m < k ∧ (hS n es (v - 1)).testBit (l m) = false
theorem Mst.start (n : Nat) (es : List (Int × Int)) (l : Nat → Nat) : Mst n es l 0 0 := ⟨fun m h => absurd h (Nat.not_lt_zero m), .inl rfl⟩
theorem Mst.next {l : Nat → Nat} {k v r : Nat} (h : Mst n es l k v) (hr : RK n es (l k) r) : Mst n es l (k + 1) (max v r) := by
  obtain ⟨r1, r2, r3⟩ := hr
  refine ⟨fun m hm => ?_, ?_⟩
  · by_cases hk : m = k
    · subst hk; exact hS_mono (by omega) r2
    · exact hS_mono (a := v) (by omega) (h.up m (by omega))
  · by_cases hv : v ≤ r
    · refine .inr ⟨k, Nat.lt_succ_self k, ?_⟩
      rw [show max v r - 1 = r - 1 by omega]; exact r3
    · rw [show max v r = v by omega]
      rcases h.low with h1 | ⟨m, h1, h3⟩
      · exact .inl h1
      · exact .inr ⟨m, by omega, h3⟩
theorem full_bits {s : Nat} (hs : s < 2 ^ n) (h : ∀ i, i < n → s.testBit i = true) : s = 2 ^ n - 1 := by
  refine full_of hs ?_
  unfold Un
  rw [List.countP_eq_zero]
  intro i hi
  rw [h i (List.mem_range.1 hi)]
  simp
theorem Mst.ht {l : Nat → Nat} {v : Nat} (h : Mst n es l n v) (hl : ∀ m, m < n → l m < n) (hall : ∀ i, i < n → ∃ m, m < n ∧ l m = i) : IsHt n es v := by
  refine ⟨full_bits (hS_lt v) fun i hi => ?_, fun j hj he => ?_⟩
  · obtain ⟨m, hm, rfl⟩ := hall i hi
    exact h.up m hm
  · rcases h.low with h1 | ⟨m, h1, h2⟩
    · omega
    · have hb : (hS n es j).testBit (l m) = true := by
        rw [he, Nat.testBit_two_pow_sub_one]; exact decide_eq_true (hl m h1)
      have := hS_mono (n := n) (es := es) (a := j) (b := v - 1) (by omega) hb
      rw [h2] at this; cases this
/-- The list of Linear: what is placed behind k events. -/
theorem sK_bits {j : Nat} : ∀ k, (sK n es k).testBit j = true ↔ ∃ m, m < k ∧ eK n es m = j
  | 0 => by rw [sK_zero, Nat.zero_testBit]; simp
  | k + 1 => by
    rw [sK_succ, or_bit, Bool.or_eq_true, sK_bits k, decide_eq_true_iff]
    constructor
    · rintro (⟨m, h1, h2⟩ | h)
      · exact ⟨m, by omega, h2⟩
      · exact ⟨k, Nat.lt_succ_self k, h⟩
    · rintro ⟨m, h1, h2⟩
      by_cases hk : m = k
      · subst hk; exact .inr h2
      · exact .inl ⟨m, by omega, h2⟩
theorem eK_pre (hc : acyc (n : Int) es = true) {k : Nat} (hk : k < n) : ∀ j, j < n → Bf n es j (eK n es k) = true → ∃ m, m < k ∧ eK n es m = j := by
  obtain ⟨h1, h2⟩ := eK_nx hc hk
  intro j hj hb
  exact (sK_bits k).1 (((rdy_pre h1).1 h2).2 j hj hb)
theorem eK_all (hc : acyc (n : Int) es = true) : ∀ i, i < n → ∃ m, m < n ∧ eK n es m = i := by
  intro i hi
  have hf := li_facts (N := (n : Int)) hc n (by omega)
  rw [Int.toNat_natCast] at hf
  have : (sK n es n).testBit i = true := Un_zero (n := n) (by have := hf.2.2.1; unfold sK; omega) i hi
  exact (sK_bits n).1 this
end
end Go.Proofs.Ytcekfgahhicdcaa
