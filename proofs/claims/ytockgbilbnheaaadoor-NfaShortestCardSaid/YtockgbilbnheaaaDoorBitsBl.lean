/- The least bit of a word taken away: what is left of its elements. Of no program. -/
import Derived.Test.YtockgbilbnheaaaDoorBitsM
import Derived.Lib.TrailingZeros
namespace Go.Proofs.YtockgbilbnheaaaDoor

theorem filter_least {n k : Nat} {p q : Nat → Bool} (hk : k < n) (h0 : ∀ j, j < k → p j = false) (h1 : p k = true) (hq : ∀ j, q j = (decide (k < j) && p j)) : (List.range n).filter p = k :: (List.range n).filter q := by
 obtain ⟨d, rfl⟩ : ∃ d, n = k + (d + 1) := ⟨n - k - 1, by omega⟩
 rw [List.range_add, List.range_succ_eq_map]
 simp only [List.filter_append, List.map_cons, List.map_map]
 have e1 : (List.range k).filter p = [] := by
  rw [List.filter_eq_nil_iff]
  intro j hj
  rw [h0 j (List.mem_range.1 hj)]
  simp
 have e2 : (List.range k).filter q = [] := by
  rw [List.filter_eq_nil_iff]
  intro j hj
  have := List.mem_range.1 hj
  rw [hq]
  simp; omega
 have e3 : q (k + 0) = false := by rw [hq]; simp
 have e4 : p (k + 0) = true := h1
 rw [e1, e2, List.filter_cons_of_pos e4, List.filter_cons_of_neg (by rw [e3]; simp)]
 simp only [List.nil_append, Nat.add_zero, List.cons.injEq, true_and]
 apply List.filter_congr
 intro j hj
 obtain ⟨i, _, rfl⟩ := List.mem_map.1 hj
 simp only [Function.comp] at *
 rw [hq]
 simp
theorem low_form (k m : Nat) : 2 ^ k * (2 * m + 1) - 1 = 2 ^ k * (2 * m) + (2 ^ k - 1) := by
 have : 0 < 2 ^ k := Nat.two_pow_pos k
 rw [Nat.mul_add, Nat.mul_one]
 omega
theorem low_bits (k m j : Nat) : ((2 ^ k * (2 * m + 1)) &&& (2 ^ k * (2 * m + 1) - 1)).testBit j = (decide (k < j) && (2 ^ k * (2 * m + 1)).testBit j) ∧ (j < k → (2 ^ k * (2 * m + 1)).testBit j = false) ∧ (2 ^ k * (2 * m + 1)).testBit k = true := by
 have hp : 0 < 2 ^ k := Nat.two_pow_pos k
 have t1 : ∀ i, (2 ^ k * (2 * m + 1)).testBit i = if i < k then (0 : Nat).testBit i else (2 * m + 1).testBit (i - k) := fun i => by
  have := Nat.testBit_two_pow_mul_add (2 * m + 1) hp i
  rwa [Nat.add_zero] at this
 have t2 : ∀ i, (2 ^ k * (2 * m + 1) - 1).testBit i = if i < k then (2 ^ k - 1).testBit i else (2 * m).testBit (i - k) := fun i => by
  rw [low_form]
  exact Nat.testBit_two_pow_mul_add (2 * m) (by omega) i
 refine ⟨?_, ?_, ?_⟩
 ·rw [Nat.testBit_and, t1, t2]
  by_cases hj : j < k
  ·rw [if_pos hj, if_pos hj]; simp
  ·rw [if_neg hj, if_neg hj]
   by_cases he : j = k
   ·subst he
    simp [Nat.testBit_zero]
   ·obtain ⟨i, rfl⟩ : ∃ i, j = k + (i + 1) := ⟨j - k - 1, by omega⟩
    rw [show k + (i + 1) - k = i + 1 by omega, Nat.testBit_succ, Nat.testBit_succ, show (2 * m + 1) / 2 = m by omega, show 2 * m / 2 = m by omega]
    have : decide (k < k + (i + 1)) = true := by simp
    rw [this]
    simp
 ·intro hj
  rw [t1, if_pos hj]; simp
 ·rw [t1, if_neg (by omega), Nat.sub_self, Nat.testBit_zero]
  simp
/-- The elements of a word: the least one, then those of the word without it. -/
theorem bitl_step (x : Nat) (hx : U64 x) (h0 : x ≠ 0) : bitl x = Lib.ctz 64 x :: bitl (x &&& (x - 1)) ∧ Lib.ctz 64 x < 64 ∧ x &&& (x - 1) < x := by
 obtain ⟨m, hm, hk⟩ := Lib.ctzFrom_spec 64 x (by omega) hx
 have e : Lib.ctz 64 x = Lib.ctzFrom 64 x := by simp [Lib.ctz, h0]
 rw [e]
 refine ⟨?_, hk, ?_⟩
 ·unfold bitl
  generalize Lib.ctzFrom 64 x = k at *
  subst hm
  exact filter_least hk (fun j hj => (low_bits k m j).2.1 hj) (low_bits k m 0).2.2 (fun j => (low_bits k m j).1)
 ·exact Nat.lt_of_le_of_lt Nat.and_le_right (by omega)
theorem bitl_lt (x : Nat) : ∀ t ∈ bitl x, t < 64 := by
 intro t ht
 unfold bitl at ht
 exact List.mem_range.1 (List.mem_filter.1 ht).1
theorem elsW_le (ws : List Nat) (k : Nat) : ∀ d, elsW ws k <+: elsW ws (k + d)
 | 0 => List.prefix_refl _
 | d + 1 => (elsW_le ws k d).trans (by rw [← Nat.add_assoc, elsW_succ]; exact List.prefix_append _ _)
theorem elsW_pre (ws : List Nat) (k : Nat) (hk : k ≤ 64) : elsW ws k <+: els ws := by
 have := elsW_le ws k (64 - k)
 rwa [show k + (64 - k) = 64 by omega] at this
/-- What has come, and the next one, is a beginning of all. -/
theorem els_next {ws dn rest : List Nat} {k t : Nat} (hk : k < 64) (h : dn ++ t :: rest = bitl (wat ws k)) : elsW ws k ++ dn.map (64 * k + ·) ++ [64 * k + t] <+: els ws := by
 refine List.IsPrefix.trans ?_ (elsW_pre ws (k + 1) hk)
 rw [elsW_succ, ← h, List.map_append, List.map_cons]
 exact ⟨rest.map (64 * k + ·), by simp⟩
end Go.Proofs.YtockgbilbnheaaaDoor
