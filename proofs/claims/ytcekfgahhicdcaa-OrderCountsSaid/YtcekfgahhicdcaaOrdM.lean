/- Layer 8: plain sets of events, and the order that edges make. -/
import Derived.Test.YtcekfgahhicdcaaLaw
namespace Go.Proofs.Ytcekfgahhicdcaa
open Go.RowKit

/-- The word of the events below n that f says. -/
def setOf : Nat → (Nat → Bool) → Nat
  | 0, _ => 0
  | n + 1, f => setOf n f ||| (if f n then 2 ^ n else 0)
theorem setOf_bit (n : Nat) (f : Nat → Bool) (k : Nat) : (setOf n f).testBit k = (decide (k < n) && f k) := by
  induction n with
  | zero => simp [setOf]
  | succ n ih =>
    rw [setOf, Nat.testBit_or, ih]
    by_cases e : k = n
    · subst e
      cases f k <;> simp
    · have h : (if f n then 2 ^ n else 0 : Nat).testBit k = false := by
        split
        · rw [Nat.testBit_two_pow]; simp; omega
        · simp
      rw [h, Bool.or_false]
      have : decide (k < n) = decide (k < n + 1) := decide_eq_decide.2 (by omega)
      rw [this]
theorem setOf_lt (n : Nat) (f : Nat → Bool) : setOf n f < 2 ^ n := by
  induction n with
  | zero => simp [setOf]
  | succ n ih =>
    rw [setOf]
    refine Nat.or_lt_two_pow (Nat.lt_of_lt_of_le ih (Nat.pow_le_pow_right (by decide) (by omega))) ?_
    split
    · exact Nat.pow_lt_pow_right (by decide) (by omega)
    · exact Nat.two_pow_pos _
theorem setOf_u64 {n : Nat} (h : n ≤ 60) (f : Nat → Bool) : setOf n f < 2 ^ 64 := Nat.lt_of_lt_of_le (setOf_lt n f) (Nat.pow_le_pow_right (by decide) (by omega))
theorem setOf_of {n x : Nat} {f : Nat → Bool} (h : ∀ k, x.testBit k = (decide (k < n) && f k)) : x = setOf n f := Nat.eq_of_testBit_eq fun k => by rw [h, setOf_bit]
theorem setOf_ext {n : Nat} {f g : Nat → Bool} (h : ∀ k, k < n → f k = g k) : setOf n f = setOf n g := setOf_of fun k => by
  rw [setOf_bit]
  by_cases e : k < n
  · rw [h k e]
  · simp [e]
theorem setOf_inj {n : Nat} {f g : Nat → Bool} (h : setOf n f = setOf n g) {k : Nat} (hk : k < n) : f k = g k := by
  have := congrArg (fun x => x.testBit k) h
  simp only [setOf_bit] at this
  simpa [hk] using this
theorem setOf_only {n i : Nat} (hi : i < n) : 2 ^ i = setOf n (fun k => k == i) := setOf_of fun k => by
  rw [Nat.testBit_two_pow]
  by_cases e : k = i
  · subst e; simp [hi]
  · rw [decide_eq_false (fun h => e h.symm), beq_eq_false_iff_ne.2 e, Bool.and_false]
theorem setOf_zero (n : Nat) : 0 = setOf n (fun _ => false) := setOf_of fun k => by rw [Nat.zero_testBit, Bool.and_false]
theorem setOf_all (n : Nat) : 2 ^ n - 1 = setOf n (fun _ => true) := setOf_of fun k => by rw [Nat.testBit_two_pow_sub_one]; simp
theorem setOf_or (n : Nat) (f g : Nat → Bool) : setOf n f ||| setOf n g = setOf n (fun k => f k || g k) := setOf_of fun k => by
  rw [Nat.testBit_or, setOf_bit, setOf_bit]
  cases decide (k < n) <;> simp
theorem setOf_has {n i : Nat} (hi : i < n) (f : Nat → Bool) : setOf n f &&& 2 ^ i = if f i then 2 ^ i else 0 := Nat.eq_of_testBit_eq fun k => by
  rw [Nat.testBit_and, setOf_bit, Nat.testBit_two_pow]
  by_cases e : i = k
  · subst e
    cases h : f i <;> simp [hi]
  · have h2 : (if f i then 2 ^ i else 0 : Nat).testBit k = false := by
      split
      · rw [Nat.testBit_two_pow]; simp; exact e
      · simp
    rw [h2]; simp [e]
/-- a without b. -/
def sdiff (a b : Nat) : Nat := a ^^^ (a &&& b)
theorem sdiff_bit (a b k : Nat) : (sdiff a b).testBit k = (a.testBit k && !b.testBit k) := by
  unfold sdiff
  rw [Nat.testBit_xor, Nat.testBit_and]
  cases a.testBit k <;> cases b.testBit k <;> rfl
theorem setOf_diff (n : Nat) (f g : Nat → Bool) : sdiff (setOf n f) (setOf n g) = setOf n (fun k => f k && !g k) := setOf_of fun k => by
  rw [sdiff_bit, setOf_bit, setOf_bit]
  cases decide (k < n) <;> simp
def subB (n : Nat) (f g : Nat → Bool) : Bool := (List.range n).all fun k => !f k || g k
theorem subB_iff {n : Nat} {f g : Nat → Bool} : subB n f g = true ↔ ∀ k, k < n → f k = true → g k = true := by
  unfold subB
  rw [List.all_eq_true]
  constructor
  · intro h k hk hf
    have := h k (List.mem_range.2 hk)
    simpa [hf] using this
  · intro h k hk
    have := h k (List.mem_range.1 hk)
    cases hf : f k
    · rfl
    · simpa [hf] using this hf
theorem setOf_within (n : Nat) (f g : Nat → Bool) : decide (sdiff (setOf n f) (setOf n g) = 0) = subB n f g := by
  rw [Bool.eq_iff_iff, decide_eq_true_iff, subB_iff, setOf_diff]
  constructor
  · intro h k hk hf
    have := setOf_inj (h.trans (setOf_zero n)) hk
    simpa [hf] using this
  · intro h
    refine (setOf_ext fun k hk => ?_).trans (setOf_zero n).symm
    cases hf : f k
    · rfl
    · simpa [hf] using h k hk hf
/-- Paths whose inner events are all below k. -/
def Pk (E : Nat → Nat → Bool) : Nat → Nat → Nat → Bool
  | 0, i, j => E i j
  | k + 1, i, j => Pk E k i j || (Pk E k i k && Pk E k k j)
theorem Pk.thru (E : Nat → Nat → Bool) : ∀ (k m i j : Nat), m < k → Pk E k i m = true → Pk E k m j = true → Pk E k i j = true
  | 0, _, _, _, h, _, _ => by omega
  | k + 1, m, i, j, hm, h1, h2 => by
    simp only [Pk, Bool.or_eq_true, Bool.and_eq_true] at *
    by_cases e : m = k
    · subst e
      refine .inr ⟨?_, ?_⟩
      · rcases h1 with h | h
        · exact h
        · exact h.1
      · rcases h2 with h | h
        · exact h
        · exact h.2
    · have hk : m < k := by omega
      rcases h1 with h1 | ⟨h1, h1'⟩
      · rcases h2 with h2 | ⟨h2, h2'⟩
        · exact .inl (Pk.thru E k m i j hk h1 h2)
        · exact .inr ⟨Pk.thru E k m i k hk h1 h2, h2'⟩
      · rcases h2 with h2 | ⟨h2, h2'⟩
        · exact .inr ⟨h1, Pk.thru E k m k j hk h1' h2⟩
        · exact .inr ⟨h1, h2'⟩
theorem Pk.edge (E : Nat → Nat → Bool) {i j : Nat} (h : E i j = true) : ∀ k, Pk E k i j = true
  | 0 => h
  | k + 1 => by rw [Pk, Pk.edge E h k, Bool.true_or]
/-- The edges as a relation. -/
def Eg (es : List (Int × Int)) (i j : Nat) : Bool := es.any fun e => e.1 == (i : Int) && e.2 == (j : Int)
def inB (N : Int) (x : Int) : Bool := decide (0 ≤ x) && decide (x < N)
def edgesOk (N : Int) (es : List (Int × Int)) : Bool := es.all fun e => inB N e.1 && inB N e.2
/-- i is before j. -/
def Bf (N : Int) (es : List (Int × Int)) (i j : Nat) : Bool := Pk (Eg es) N.toNat i j
def acyc (N : Int) (es : List (Int × Int)) : Bool := (List.range N.toNat).all fun i => !Bf N es i i
def valO (N : Int) (es : List (Int × Int)) : Bool := decide (0 ≤ N ∧ N ≤ 60 ∧ es.length ≤ 3600) && edgesOk N es && acyc N es
theorem Bf.trans {N : Int} {es : List (Int × Int)} {i j k : Nat} (hj : j < N.toNat) (h1 : Bf N es i j = true) (h2 : Bf N es j k = true) : Bf N es i k = true := Pk.thru _ _ _ _ _ hj h1 h2
theorem Bf.edge {N : Int} {es : List (Int × Int)} {i j : Nat} (h : ((i : Int), (j : Int)) ∈ es) : Bf N es i j = true := Pk.edge _ (by unfold Eg; rw [List.any_eq_true]; exact ⟨_, h, by simp⟩) _
theorem Bf.irr {N : Int} {es : List (Int × Int)} (h : acyc N es = true) {i : Nat} (hi : i < N.toNat) : Bf N es i i = false := by
  unfold acyc at h
  rw [List.all_eq_true] at h
  have := h i (List.mem_range.2 hi)
  simpa using this
end Go.Proofs.Ytcekfgahhicdcaa
